import PyProof.Rows.All
import Wide.All
import OpenK.AllK
import Wide.FinOn
import HandS.ForMost
import HandS.IsInst
import HandS.AnyAll
import HandS.Evl
import PyProof.GenCompD
import PyProof.WalksMore
import HandS.EndTab
import PyProof.Rows.NestShow
import PyProof.ReprLen
import PyProof.ReprBulk
import KE.GoesMore
import HandS.Zip
import HandS.TryOnly
import HandS.Strs
import HandS.Wide
import HandS.Walk
import HandS.TupLe
import PyProof.SumWalkG
import PyProof.Rows.Chain
import HandS.SetFor
import HandS.Conv
import HandS.Deep
import HandS.SortInts
import HandS.Style
import KE.DataEq
import PySem.Challenge.RW_farstory_k09_whole_stores_beside_all_row
set_option Elab.async false
set_option linter.all false
set_option maxRecDepth 100000
set_option maxHeartbeats 4000000
/-! Pure expressions and pure defs, whatever runs around them; all(f(x) for x in e). -/
namespace Pu
open PySem PySem.Spec PyProof.Rows L2

/-- what stands in g stands in h -/
abbrev Ext (g h : Heap) : Prop := ∀ b o, g.get? b = some o → h.get? b = some o
/-- from any heap over g the expression is worth v, and what stood stays -/
def EV (P : Program) (w : World) (A : Around) (env : Env) (g : Heap) (e : Expr) (v : V) : Prop :=
  ∀ (s : Shared) (Q : Value → Shared → Prop) (E : Value → Shared → Prop), Ext g s.heap →
    (∀ u h' tk, RelV v u → Ext s.heap h' → Q u { s with heap := h', toks := tk }) → wpAny (model P w) A (eval e env) Q E s
/-- arguments -/
def EA (P : Program) (w : World) (A : Around) (env : Env) (g : Heap) (es : List Expr) (vs : List V) : Prop :=
  ∀ (pos : Pos) (s : Shared) (Q : List Value → Shared → Prop) (E : Value → Shared → Prop), Ext g s.heap →
    (∀ us h' tk, Vals vs us → Ext s.heap h' → Q us { s with heap := h', toks := tk }) → wpAny (model P w) A (spliced (backTo pos (starEach es env))) Q E s
/-- a pure def: called with vs at a heap over g it gives v -/
structure PF (P : Program) (w : World) (K : PySem.W.Frag) (mg : Str → Option Value) (base : Heap) (k : Nat) (f : Addr) (fd : FuncData) (ps : List Str) (sp : List V → Heap → V → Prop) : Prop where
  run : ∀ (A : Around) (s : Shared) (args : Args) (us : List Value) (vs : List V) (v : V) (R : Result → Shared → Prop), Room k A → Ext base s.heap → BindsTo s fd args (ps.zip us) → Vals vs us → vs.length = ps.length → sp vs s.heap v →
    (∀ u h' tk, RelV v u → Ext s.heap h' → R (.ok (.ret u)) { s with heap := h', toks := tk }) → codeAny (model P w) A (.call (.ref f) args) R s

/-- the frame of a pure body -/
structure FrP (K : PySem.W.Frag) (mg : Str → Option Value) (base : Heap) (A : Around) (env : Env) (g : Heap) : Prop where
  mod : L2.Mod K mg base
  ext : Ext base g
  kind : env.scope.kind = .function
  glob : env.globals = mainGlobals
  blt : env.builtins = builtinsNs
  hd : A.handled = none

section
variable {P : Program} {w : World} {K : PySem.W.Frag} {mg : Str → Option Value} {base : Heap} {A : Around} {env : Env} {g : Heap}
theorem ev_loc {x : Str} {pos : Pos} {m : Str → Option Value} {u : Value} {v : V} (F : FrP K mg base A env g) (hl : env.kindOf x = some .local) (hn : g.Ns env.locals m) (hm : m x = some u) (r : RelV v u)
    (hd : (x == ("__debug__" : Str)) = false := by decide) : EV P w A env g (.Name x pos) v := fun s Q E hx hQ =>
  wpAny_Name (wpAny_loadName_local F.kind hl (hn.keeps hx) hm (hQ u s.heap s.toks r fun _ _ e => e)) hd
theorem ev_int {i : Int} {k : Nat} {pos : Pos} : EV P w A env g (.Constant (.int i) k pos) (.int i) := fun s Q E hx hQ =>
  wpAny_Constant_int (hQ _ s.heap (s.toks + 1) ⟨_, rfl⟩ fun _ _ e => e)
theorem ev_blt {x : Str} {pos : Pos} {u : Value} {v : V} (F : FrP K mg base A env g) (hg : env.kindOf x = some .globalImplicit) (hm : mg x = none) (hv : bootBuiltins x = some u) (r : RelV v u) (hn : x ≠ "__name__" := by decide)
    (hd : (x == ("__debug__" : Str)) = false := by decide) : EV P w A env g (.Name x pos) v := fun s Q E hx hQ => by
  obtain ⟨mb, h1, h2⟩ := F.mod.blt
  have hb : Ext base s.heap := fun b o e => hx b o (F.ext b o e)
  exact Calls.Name_function_global F.kind hg (Calls.loadGlobal_builtin (by rw [F.glob]; exact F.mod.glob.keeps hb) hm (by rw [F.blt]; exact h1.keeps hb) ((h2 x hn).trans hv) (hQ u s.heap s.toks r fun _ _ e => e)) hd
theorem ev_and {a b : Expr} {rest : List Expr} {pos : Pos} {x y : Bool} (ha : EV P w A env g a (.bl x)) (hb : x = true → EV P w A env g (.BoolOp .And (b :: rest) pos) (.bl y)) :
    EV P w A env g (.BoolOp .And (a :: b :: rest) pos) (.bl (x && y)) := fun s Q E hx hQ => by
  refine BoolOp_and (ha s _ E hx fun u h' tk r hk => ?_)
  cases (show u = Value.bool x from r)
  refine wpAny_truthy_bool ?_
  cases x with
  | false => exact hQ _ h' tk rfl hk
  | true => exact hb rfl { s with heap := h', toks := tk } Q E (fun b o e => hk b o (hx b o e)) fun u h2 t2 r2 k2 => hQ u h2 t2 r2 fun b o e => k2 b o (hk b o e)
theorem ev_one {op : BoolOp} {a : Expr} {pos : Pos} {v : V} (h : EV P w A env g a v) : EV P w A env g (.BoolOp op [a] pos) v := fun s Q E hx hQ => BoolOp_one (h s Q E hx hQ)
theorem ev_not {a : Expr} {pos : Pos} {x : Bool} (ha : EV P w A env g a (.bl x)) : EV P w A env g (.UnaryOp .Not a pos) (.bl (!x)) := fun s Q E hx hQ => by
  refine UnaryOp_ (ha s _ E hx fun u h' tk r hk => ?_)
  cases (show u = Value.bool x from r)
  exact not_of (wpAny_truthy_bool (hQ _ h' tk rfl hk))
theorem ev_ge {a b : Expr} {pos : Pos} {i j : Int} (ha : EV P w A env g a (.int i)) (hb : EV P w A env g b (.int j)) (hm : behindInMarks .GtE b = false := by first | exact nobehind _ (by decide) (by decide) | rfl) :
    EV P w A env g (.Compare a [.GtE] [b] pos) (.bl (decide (i ≥ j))) := fun s Q E hx hQ => by
  refine wpAny_Compare1 (ha s _ E hx fun u h' tk r hk => ?_) hm
  refine hb { s with heap := h', toks := tk } _ E (fun b o e => hk b o (hx b o e)) fun u2 h2 t2 r2 k2 => ?_
  obtain ⟨t, rfl⟩ := r
  obtain ⟨t', rfl⟩ := r2
  exact ge_int (hQ _ h2 t2 rfl fun b o e => k2 b o (hk b o e))
theorem ev_eqI {a b : Expr} {pos : Pos} {i j : Int} (ha : EV P w A env g a (.int i)) (hb : EV P w A env g b (.int j)) (hm : behindInMarks .Eq b = false := by first | exact nobehind _ (by decide) (by decide) | rfl) :
    EV P w A env g (.Compare a [.Eq] [b] pos) (.bl (decide (i = j))) := fun s Q E hx hQ => by
  refine wpAny_Compare1 (ha s _ E hx fun u h' tk r hk => ?_) hm
  refine hb { s with heap := h', toks := tk } _ E (fun b o e => hk b o (hx b o e)) fun u2 h2 t2 r2 k2 => ?_
  obtain ⟨t, rfl⟩ := r
  obtain ⟨t', rfl⟩ := r2
  exact eq_int (by rw [Bool.beq_eq_decide_eq]; exact hQ _ h2 t2 rfl fun b o e => k2 b o (hk b o e))
theorem ea_nil : EA P w A env g [] [] := fun pos s Q E hx hQ => Calls.spliced_nil (hQ [] s.heap s.toks .nil fun _ _ e => e)
theorem ea_cons {e : Expr} {es : List Expr} {v : V} {vs : List V} (ha : EV P w A env g e v) (hr : EA P w A env g es vs) (hs : starEach (e :: es) env = (false, eval e env) :: starEach es env := by rfl) : EA P w A env g (e :: es) (v :: vs) := fun pos s Q E hx hQ => by
  rw [hs]
  show wpAny _ _ (spliced ((false, eval e env) :: backTo pos (starEach es env))) _ _ s
  refine Calls.spliced_cons (ha s _ E hx fun u h' tk r hk => ?_)
  exact hr pos { s with heap := h', toks := tk } _ E (fun b o e => hk b o (hx b o e)) fun us h2 t2 r2 k2 => hQ (u :: us) h2 t2 (.cons r r2) fun b o e => k2 b o (hk b o e)
/-- a built-in by its name -/
theorem ev_bltcall {id : String} {x : Str} {p pos : Pos} {e : Expr} {es : List Expr} {vs : List V} {z : V} (F : FrP K mg base A env g) (hg : env.kindOf x = some .globalImplicit) (hm : mg x = none) (hv : bootBuiltins x = some (.builtin id))
    (ha : EA P w A env g (e :: es) vs)
    (hc : ∀ (s : Shared) (us : List Value) (Q : Value → Shared → Prop) (E : Value → Shared → Prop), Ext g s.heap → Vals vs us → (∀ u h' tk, RelV z u → Ext s.heap h' → Q u { s with heap := h', toks := tk }) → wpAny (model P w) A (call (.builtin id) us) Q E s)
    (hn : x ≠ "__name__" := by decide) (hd : (x == ("__debug__" : Str)) = false := by decide)
    (he : starEach (e :: es) env = (false, eval e env) :: starEach es env := by rfl) (hpl : (backTo pos (starEach es env)).any (·.1) = false := by rfl) : EV P w A env g (.Call (.Name x p) (e :: es) [] pos) z := fun s Q E hx hQ => by
  obtain ⟨mb, h1, h2⟩ := F.mod.blt
  have hb : Ext base s.heap := fun b o e => hx b o (F.ext b o e)
  refine wpAny_Call_Name_kw (Calls.Name_function_global F.kind hg (Calls.loadGlobal_builtin (by rw [F.glob]; exact F.mod.glob.keeps hb) hm (by rw [F.blt]; exact h1.keeps hb) ((h2 x hn).trans hv) ?_) hd)
  refine PyProof.Rows.callWith_builtin1 (ha pos s _ E hx fun us h' tk r hk => ?_) he hpl
  exact hc { s with heap := h', toks := tk } us Q E (fun b o e => hk b o (hx b o e)) r fun u h2 t2 r2 k2 => hQ u h2 t2 r2 fun b o e => k2 b o (hk b o e)
/-- a pure def by its name -/
theorem ev_pf {k : Nat} {f : Addr} {fd : FuncData} {ps : List Str} {sp : List V → Heap → V → Prop} {x : Str} {p pos : Pos} {e : Expr} {es : List Expr} {vs : List V} {z : V} (F : FrP K mg base A env g) (G : PF P w K mg base k f fd ps sp) (hr : Room k A)
    (hg : env.kindOf x = some .globalImplicit) (hm : mg x = some (.ref f)) (hk : PySem.W.keepIn K (.ref f) = true) (hb : Binds K fd ps []) (ha : EA P w A env g (e :: es) vs) (hl : vs.length = ps.length)
    (hsp : ∀ h, Ext g h → sp vs h z) (hd : (x == ("__debug__" : Str)) = false := by decide)
    (he : starEach (e :: es) env = (false, eval e env) :: starEach es env := by rfl) (hpl : (backTo pos (starEach es env)).any (·.1) = false := by rfl) : EV P w A env g (.Call (.Name x p) (e :: es) [] pos) z := fun s Q E hx hQ => by
  have hbs : Ext base s.heap := fun b o e => hx b o (F.ext b o e)
  refine wpAny_Call_Name_kw (Calls.Name_function_global F.kind hg (Calls.loadGlobal_global (by rw [F.glob]; exact F.mod.glob.keeps hbs) hm ?_) hd)
  refine PySem.W.callWith_K (h₀ := base) F.mod.kin hk (ha pos s _ E hx fun us h' tk r hk2 => ?_) he hpl
  have hx2 : Ext g h' := fun b o e => hk2 b o (hx b o e)
  have hb2 : Ext base h' := fun b o e => hx2 b o (F.ext b o e)
  refine ⟨F.mod.kin.keeps hb2, ?_⟩
  show wpAny _ _ (call (.ref f) us) _ _ _
  have hlu : (us ++ []).length = ps.length := by rw [List.append_nil, ← r.length]; exact hl
  have hbind := hb { s with heap := h', toks := tk } us (F.mod.kin.keeps hb2) hlu
  rw [List.append_nil] at hbind
  refine wpAny_call (codeAny_mono (G.run A { s with heap := h', toks := tk } ⟨us, []⟩ us vs z (fun r s' => ∃ u h2 t2, r = .ok (.ret u) ∧ RelV z u ∧ Ext h' h2 ∧ s' = { s with heap := h2, toks := t2 }) hr hb2 hbind r hl (hsp h' hx2) fun u h2 t2 r2 k2 => ⟨u, h2, t2, rfl, r2, k2, rfl⟩) fun r s' hq => ?_)
  obtain ⟨u, h2, t2, rfl, r2, k2, rfl⟩ := hq
  exact hQ u h2 t2 r2 fun b o e => k2 b o (hk2 b o e)
/-- a pure def of the text: its body is one return -/
theorem pf_ret {x qual : Str} {st : Stmt} {f : Addr} {fd : FuncData} {N ps : List Str} {k : Nat} {sp : List V → Heap → V → Prop} {e : Expr} {pos : Pos} (M : L2.Mod K mg base) (Fn : Fun K x qual st f fd) (S : FnScope N ps (defScope st)) (hst : defBody st = [.Return (some e) pos])
    (hloc : ∀ y ∈ ps, (defScope st).names.lookup y = some .local)
    (hbody : ∀ (cdv : Value) (A : Around) (L : Addr) (g : Heap) (us : List Value) (vs : List V) (v : V), Room k A → Ext base g → Vals vs us → vs.length = ps.length → sp vs g v →
      (∀ (i : Nat) (y : Str) (u : Value), ps[i]? = some y → us[i]? = some u → ∃ m, g.Ns (envOfC qual (defScope st) L f cdv).locals m ∧ m y = some u) → EV P w A (envOfC qual (defScope st) L f cdv) g e v)
    (hmono : ∀ vs g h v, Ext g h → sp vs g v → sp vs h v) : PF P w K mg base (k + 1) f fd ps sp := by
  obtain ⟨oc, od, kV, doc, pm, an, cdv, ct, osl, rfl, lk, hcd⟩ := Fn.ex
  refine ⟨fun A s args us vs v R hr hbs hb r hl hsp hR => ?_⟩
  have KX : K.In s.heap := M.kin.keeps hbs
  have lim : s.heap.NoLimit := M.nolimit.keeps hbs
  have ndP : ps.Nodup := by rw [← S.pre]; exact S.nd.sublist (List.take_sublist _ _)
  refine codeAny_call_function hr.depth (KX _ _ lk) rfl S.co S.gen rfl (PySem.W.codeRec_of KX hcd) (hb _ _ _ _ ?_)
  refine wpAny_newFunctionEnv_cells S.kind (fun ⟨n, z⟩ hy => .inl (hloc n (List.of_mem_zip hy).1)) fun env he s1 X => ?_
  subst he
  obtain ⟨h1, tk, e1, hk1⟩ := X.done
  refine ⟨lim.keeps X.toInCall.keep, codeAny_func ?_⟩
  rw [hst]
  refine wpAny_execs_cons (wpAny_Return_some ?_)
  have hns := X.toInCall.ns
  subst e1
  refine hbody cdv _ s.heap.objs.size h1 us vs v (hr.deeper _) (fun b o e => hk1 b o (hbs b o e)) r hl (hmono _ _ _ _ hk1 hsp) (fun i y u h2 h3 => ⟨_, hns, bindL_get ndP h2 h3 (hloc y (List.mem_of_getElem? h2))⟩) _ _ _ (fun _ _ e => e) fun u h' t' rv k' => ?_
  exact hR u h' t' rv fun b o e => k' b o (hk1 b o e)
end
end Pu
set_option Elab.async false
set_option linter.all false
set_option maxRecDepth 100000
set_option maxHeartbeats 4000000
/-! all(f(x) for x in e), e a tuple or a list, f(x) pure. -/
namespace Pu
open PySem PySem.Spec PyProof.Rows L2 GxR

section
variable {X : Cx} {pins : List (Addr × Obj)} {σ : L2.St} {H : Hp} {s : Shared}
/-- the walk of a tuple or a list, its iterator just made -/
theorem iter_any {A : Around} {a : Addr} {xs : List V} {Q : Value → Shared → Prop} {E : Value → Shared → Prop} (I : Inv X pins σ H s) (hq : SqT X.K H a xs ∨ SqL X.K H a xs)
    (hQ : ∀ (o : Obj) (its : List Value) (St : Nat → Heap → Prop), Vals xs its → a < s.heap.objs.size →
      (∀ B : Around, B.handled = none → Walks X.prog X.w B s.heap.objs.size [s.heap.objs.size, a] [s.heap.objs.size] its.toArray.size (fun i v => its.toArray[i]? = some v) St) →
      St 0 (s.heap.push o) → Q (.ref s.heap.objs.size) { s with heap := s.heap.push o }) : wpAny (model X.prog X.w) A (pyIter (.ref a)) Q E s := by
  rcases hq with hq | hq
  · obtain ⟨its, rv, p, hz⟩ := I.tuple hq
    have lt : a < s.heap.objs.size := p.lt
    have hne : a ≠ s.heap.objs.size := Nat.ne_of_lt lt
    refine wpAny_pyIter_tuple (show s.heap.IsTuple a its.toArray from p) ?_
    refine hQ _ its _ rv lt (fun B hB => Walks.tuple hB s.heap.objs.size a hne its.toArray) ⟨⟨_, Heap.get?_push_size _ rfl, rfl, rfl⟩, ?_⟩
    obtain ⟨o, ho, r⟩ := p
    exact ⟨o, Heap.get?_push_of_some _ ho, r⟩
  · obtain ⟨its, rv, p, hz⟩ := I.list hq
    obtain ⟨o1, n1, ho1, _⟩ := id p
    have lt : a < s.heap.objs.size := Heap.lt_size ho1
    have hne : a ≠ s.heap.objs.size := Nat.ne_of_lt lt
    refine wpAny_pyIter_list p.isList ?_
    refine hQ _ its _ rv lt (fun B hB => Walks.list hB s.heap.objs.size a hne its.toArray) ⟨⟨_, Heap.get?_push_size _ rfl, rfl, rfl⟩, ?_⟩
    exact (p.keeps fun b o e => Heap.get?_push_of_some _ e).isList

/-- the element's worth, item by item, from any frame of the generator -/
def Elt (X : Cx) (T : Addr) (sc : Scope) (x : Str) (elt : Expr) (k : Nat) (H1 : Hp) (xs : List V) (pb : Nat → Bool) : Prop :=
  ∀ (B : Around) (cenv : Env) (g : Heap) (i : Nat) (v : V) (u : Value), Room k B → cenv.scope = sc → cenv.globals = mainGlobals → cenv.builtins = builtinsNs → Ext X.base g →
    (∃ m, g.Ns cenv.locals m ∧ m x = some u) → xs[i]? = some v → RelV v u → (∀ b ho, b ≠ T → H1 b = some ho → ObjOk X.prog X.w H1 g b ho) → EV X.prog X.w B cenv g elt (.bl (pb i))
/-- a generator that is ready to be drawn from, n tests -/
def Drawn (X : Cx) (pins : List (Addr × Obj)) (σ : L2.St) (H1 : Hp) (T : Addr) (n : Nat) (pb : Nat → Bool) (g : Addr) (s5 : Shared) : Prop :=
  ∃ (fp wr : List Addr) (G : Array GenState → Array GenState → Prop) (F : Nat → Value → Prop) (St : Nat → Shared → Prop),
    WalksS X.prog X.w X.A.in1 g fp wr G n F St ∧ St 0 s5 ∧ TruthOf X.prog X.w X.A.in1 F pb ∧ ∀ s', Moved wr G s5 s' → ∃ H2, Tabbed T H1 H2 ∧ Inv X pins σ H2 s'

/-- the generator's code object, met already or made now: what is known of the heap behind it -/
theorem code_any {M : Model} {A : Around} {E : Value → Shared → Prop} {s : Shared} {env : Env} {c T : Addr} {ps : Array Value} {pos : Pos} {nm : Str} {sc : Scope} {Q : Value → Shared → Prop}
    (hc : env.code = .ref c) (hi : s.heap.IsCode c T ps) (ht : s.heap.TableAt c T ps) (ok : TriplesOk ps.toList) (hT : s.heap.get? T = some { cls := .none, data := .fields ps })
    (k : ∀ (code : Value) (h3 : Heap) (tk : Nat) (ps' : Array Value), Heap.ExtBut T s.heap h3 → s.heap.objs.size ≤ h3.objs.size → h3.get? T = some { cls := .none, data := .fields ps' } → (∃ more, ps' = ps ++ more) → TriplesOk ps'.toList →
      Q code { s with heap := h3, toks := tk }) : wpAny M A (genexprCode env pos nm sc) Q E s := by
  cases e : codeAmong pos ps.toList with
  | some old => exact wpAny_genexprCode_hit hc hi e (k old s.heap s.toks ps (Heap.ExtBut.refl _ _) (Nat.le_refl _) hT ⟨#[], by simp⟩ ok)
  | none =>
    refine wpAny_genexprCodeX hc hi ht e fun new h3 tk far lo hi' code' _ tab' _ => ?_
    have tr := code'
    obtain ⟨_, _, _, _, _, _, _, _, _, _, _, _, _, _, _, _, _, _, _, tr, _⟩ := tr
    exact k _ h3 tk _ far (by omega) tab'.2 ⟨_, rfl⟩ tr
theorem gen_seq {c T : Addr} {elt iter : Expr} {x : Str} {px gp : Pos} {sc : Scope} {te : TE} {k : Nat} {W : Value → Shared → Prop} {R : Hp → List V → (Nat → Bool) → Prop}
    (hr : Room (k + 1) X.A) (TB : TabB X.base X.mg c T) (hcode : X.env.code = .ref c) (S : GenS X.env sc x) (hi : PE X iter te) (hs : ∀ v, genFold iter X.env v = pure v) (I : Inv X pins σ H s)
    (h : te σ H fun v H1 => ∃ (a : Addr) (xs : List V) (pb : Nat → Bool), v = .ref a ∧ (SqT X.K H1 a xs ∨ SqL X.K H1 a xs) ∧ TabG H1 T ∧ Elt X T sc x elt k H1 xs pb ∧ R H1 xs pb)
    (hQ : ∀ H1 xs pb g s5, R H1 xs pb → Drawn X pins σ H1 T xs.length pb g s5 → W (.ref g) s5) :
    wpAny (model X.prog X.w) X.A (eval (.GeneratorExp elt [⟨.Name x px, iter, [], 0⟩] sc gp) X.env) W X.xe s := by
  refine wpAny_GeneratorExp_walksQD hr.hd S.co (closure_ok S.free) S.cell S.dot S.loc S.kind (by have := hr.dp; omega) ?_ hs
  refine thn (hi.run pins s σ H _ I h) fun xv s1 ⟨v, H1, I1, r1, q1⟩ => ?_
  obtain ⟨a, xs, pb, rfl, hsq, ⟨ps, hT, ht⟩, hel, hR⟩ := q1
  cases (show xv = Value.ref a from r1)
  refine iter_any I1 hsq fun o its St rv haLt Wk hst => ?_
  have hTs : s1.heap.get? T = some { cls := .none, data := .fields ps } := I1.hok T _ hT
  have hTlt : T < s1.heap.objs.size := Heap.lt_size hTs
  have hT2 : (s1.heap.push o).get? T = some { cls := .none, data := .fields ps } := Heap.get?_push_of_some _ hTs
  have push_keep : ∀ b u, s1.heap.get? b = some u → (s1.heap.push o).get? b = some u := fun b u e => Heap.get?_push_of_some _ e
  have cd : PySem.W.CodeHd (s1.heap.push o) c T := TB.code.keeps fun b u e => push_keep b u (I1.bk b u e)
  have lim2 : (s1.heap.push o).NoLimit := I1.nolimit.push o
  have noT : ∀ b u, X.base.get? b = some u → b ≠ T := fun b u e z => by
    have n := (I1.bs b u e).2
    rw [z, hT] at n
    cases n
  have hlen : its.toArray.size = xs.length := by rw [List.size_toArray, rv.length]
  refine ⟨lim2, code_any hcode (cd.code hT2 ht) (cd.tab hT2) ht hT2 fun code h3 tk ps' hx hsz hT3 hmore ht3 => ?_⟩
  obtain ⟨bm, ob, e1, e2, e3, e4, e5, e6, e7, e8⟩ := TB.bm
  have cneT : cStatics ≠ T := fun e => by
    obtain ⟨_, hns, _⟩ := I1.nolimit
    obtain ⟨o', es, ep, ho, hd, _⟩ := hns
    rw [e, hTs] at ho
    cases ho
    cases hd
  have cLt : cStatics < s1.heap.objs.size := let ⟨_, hns, _⟩ := I1.nolimit; hns.lt
  have sz2 : (s1.heap.push o).objs.size = s1.heap.objs.size + 1 := Heap.size_push ..
  have keep3 : ∀ b u, b ≠ T → s1.heap.get? b = some u → h3.get? b = some u := fun b u hb e => hx b u hb (push_keep b u e)
  refine wpAny_builtinsFor (m := X.mg) (by rw [I1.ok.glob]; exact ((I1.mod.glob.keeps I1.bk).push o).extBut hx TB.gP) e1 e2 (keep3 _ _ e4 (I1.bk _ _ e5)) e6 e7 e8 ?_
  have aneT : a ≠ T := fun z => by
    rcases hsq with q | q
    · rcases q with (q | ⟨_, q⟩) | ⟨_, _, _, hk, _⟩
      · rw [z, hT] at q; cases q
      · rw [z, hT] at q; cases q
      · exact noT a _ (I1.mod.kin a _ hk) z
    · rcases q with (q | ⟨_, q⟩) | ⟨_, _, _, hk, _⟩
      · rw [z, hT] at q; cases q
      · rw [z, hT] at q; cases q
      · exact noT a _ (I1.mod.kin a _ hk) z
  have sLt : s1.heap.objs.size < h3.objs.size := Nat.lt_of_lt_of_le (by rw [sz2]; exact Nat.lt_succ_self _) hsz
  have Wk2 : ∀ B : Around, B.handled = none → Walks X.prog X.w B s1.heap.objs.size [s1.heap.objs.size, a] [s1.heap.objs.size] xs.length (fun i v => its.toArray[i]? = some v) St := hlen ▸ Wk
  refine ⟨s1.heap.objs.size, [s1.heap.objs.size, a], [s1.heap.objs.size], xs.length, (fun i v => its.toArray[i]? = some v), St, (fun _ => true), (fun i y => y = .bool (pb i)), rfl, Wk2, ?_, ?_, lim2.extBut hx cneT, ?_, ?_, ?_⟩
  · refine (Wk2 X.A hr.hd).frame _ _ _ hst fun b hb u e => hx b u (fun z => ?_) e
    rcases List.mem_cons.mp hb with z2 | z2
    · exact Nat.ne_of_lt hTlt (z.symm.trans z2)
    · rcases List.mem_cons.mp z2 with z2 | z2
      · exact aneT (z2.symm.trans z)
      · cases z2
  · intro b hb
    show b < h3.objs.size
    rcases List.mem_cons.mp hb with z | z
    · rw [z]; exact sLt
    · rcases List.mem_cons.mp z with z | z
      · rw [z]; exact Nat.lt_trans haLt sLt
      · cases z
  · intro z
    rcases List.mem_cons.mp z with z | z
    · exact Nat.ne_of_lt cLt z
    · cases z
  · intro href hhref
    refine ⟨fun A' E' i v s₂ m₂ hA hD hU hPv hn hm hk => ?_, fun A' E' i v s₂ m₂ hA hD hU hPv hp hn hm hk => ?_⟩
    · simp only [List.forIn_nil]
      exact wpAny_pure ⟨rfl, keeps_refl _⟩
    · have hv2 : its[i]? = some v := by simpa using hPv
      have hi2 : i < xs.length := by
        have := (List.getElem?_eq_some_iff.mp hv2).1
        rw [rv.length]; exact this
      obtain ⟨u, hu, ru⟩ := rv.get (List.getElem?_eq_getElem hi2)
      have euv : u = v := Option.some.inj (hu.symm.trans hv2)
      subst euv
      have ob2 : ∀ b w', b ≠ T → s1.heap.get? b = some w' → s₂.heap.get? b = some w' := fun b w' hb e => by
        have l1 := Heap.lt_size e
        have e3 := keep3 b w' hb e
        refine hk b (List.mem_range.mpr (Heap.lt_size e3)) (fun z => ?_) _ (hhref _ _ e3)
        rcases List.mem_cons.mp z with z | z
        · exact Nat.ne_of_lt l1 z
        · cases z
      have rm : Room k A' := ⟨hA, by have := hr.dp; omega, by have := hr.un; omega⟩
      refine hel A' (genEnv sc (cloFrom X.env.cells sc.names []) h3.objs.size code builtinsNs X.env) s₂.heap i _ u rm rfl I1.ok.glob rfl (fun b w' e => ob2 b w' (noT b w' e) (I1.bk b w' e)) ⟨m₂, hn, hm⟩ (List.getElem?_eq_getElem hi2) ru (fun b ho hb e => ?_) s₂ _ _ (fun _ _ e => e) fun y h' tk' ry hk' => ?_
      · refine (I1.hok b ho e).stay (fun d w' hd q => ob2 d w' ?_ q) (fun _ q => q) fun _ _ q => q
        rcases hd with z | z
        · rw [z]; exact hb
        · intro z2
          rw [z2, hT] at z
          cases z
      · exact ⟨ry, h', tk', rfl, hk'⟩
  · intro g h5 tk5 gs hgb hag hsz5 hk5 W5 hat
    simp only [GxR.passing_true, List.length_range] at W5
    refine hQ H1 xs pb g _ hR ⟨_, _, _, _, _, W5.in4_1, hat, ?_, fun s' hm => ?_⟩
    · intro j y sj Qj Ej hy hQj
      obtain ⟨i, hij, rfl⟩ := hy
      obtain ⟨hj, ej⟩ := List.getElem?_eq_some_iff.mp hij
      rw [List.getElem_range] at ej
      subst ej
      exact wpAny_truthy_bool hQj
    · obtain ⟨more, em⟩ := hmore
      have nwr : ∀ b u, s1.heap.get? b = some u → b ∉ h3.objs.size :: [s1.heap.objs.size] := fun b u e hb => by
        have hl := Heap.lt_size e
        rcases List.mem_cons.mp hb with z | z
        · have h9 : b = h3.objs.size := z
          have : b < s1.heap.objs.size := hl
          rw [h9] at this
          have h10 : h3.objs.size < s1.heap.objs.size := this
          omega
        · rcases List.mem_cons.mp z with z | z
          · rw [z] at hl
            exact Nat.lt_irrefl _ hl
          · cases z
      have J := inv_tab (more := more) (h' := s'.heap) (g' := s'.gens) (d' := s'.drawn) (t' := s'.toks) I1 hT (fun b u hb e => hm.heap b u (nwr b u e) (hk5 b u (keep3 b u hb e)))
        (by rw [← em]; exact hm.heap T _ (nwr T _ hTs) (hk5 T _ hT3)) (AllBare.movedS (I1.bare.push hgb) hm)
      rw [sh_eta s1 s' hm.os] at J
      exact ⟨upd H1 T (.tbl (ps ++ more)), ⟨⟨ps ++ more, upd_same, by rw [← em]; exact ht3⟩, fun b hb => upd_ne hb⟩, J⟩

/-- all(test for x in e): the reading -/
def tAllQ (X : Cx) (T : Addr) (sc : Scope) (x : Str) (elt : Expr) (k : Nat) (te : TE) : TE := fun σ H Q => te σ H fun v H1 => ∃ (a : Addr) (xs : List V) (pb : Nat → Bool),
  v = .ref a ∧ (SqT X.K H1 a xs ∨ SqL X.K H1 a xs) ∧ TabG H1 T ∧ Elt X T sc x elt k H1 xs pb ∧ ∀ H2, Tabbed T H1 H2 → Q (.bl ((List.range xs.length).all pb)) H2
theorem pe_allQ {c T : Addr} {elt iter : Expr} {x : Str} {px p pos gp : Pos} {sc : Scope} {te : TE} {k : Nat} (hr : Room (k + 1) X.A) (hg : Gl X "all") (hm : X.mg "all" = none) (TB : TabB X.base X.mg c T) (hcode : X.env.code = .ref c)
    (S : GenS X.env sc x) (hi : PE X iter te) (hb : bootBuiltins "all" = some (.builtin "all") := by decide +kernel) (hs : ∀ v, genFold iter X.env v = pure v := by intro _; rfl)
    (he : starEach [.GeneratorExp elt [⟨.Name x px, iter, [], 0⟩] sc gp] X.env = (false, eval (.GeneratorExp elt [⟨.Name x px, iter, [], 0⟩] sc gp) X.env) :: starEach [] X.env := by rfl) :
    PE X (.Call (.Name "all" p) [.GeneratorExp elt [⟨.Name x px, iter, [], 0⟩] sc gp] [] pos) (tAllQ X T sc x elt k te) := by
  refine ⟨fun pins s σ H Q I h => wpAny_Call_Name_kw (ld_blt I hg hm hb (PyProof.Rows.callWith_builtin1 ?_ he (by rfl)))⟩
  rw [he]
  show wpAny _ _ (spliced ((false, eval (.GeneratorExp elt [⟨.Name x px, iter, [], 0⟩] sc gp) X.env) :: backTo pos (starEach [] X.env))) _ _ s
  refine Calls.spliced_cons (gen_seq (R := fun H1 xs pb => ∀ H2, Tabbed T H1 H2 → Q (.bl ((List.range xs.length).all pb)) H2) hr TB hcode S hi hs I h fun H1 xs pb g s5 hR hG => ?_)
  obtain ⟨fp, wr, G, F, St, Wk, hst, htr, hI⟩ := hG
  refine Calls.spliced_nil (call_all_walkS (Wk.self 0 _ _ _ hst ⟨g, fp, wr, G, _, F, St, _, rfl, Wk, hst, htr, fun s' hmv => ?_⟩))
  obtain ⟨H2, hT, J⟩ := hI s' hmv
  exact ⟨.bl _, H2, J, rfl, hR H2 hT⟩
end
end Pu
set_option Elab.async false
set_option linter.all false
set_option maxRecDepth 100000
set_option maxHeartbeats 4000000
/-! repr of data; a law's end where repr is asked. -/
namespace Pu
open PySem PySem.Spec PyProof.Rows L2 GxR

/-- the list or tuple d, shown -/
def rRepr (K : PySem.W.Frag) : List V → Hp → VK → Prop := fun vs H Q => ∃ (v : V) (d : PyData), vs = [v] ∧ Dp K H v d ∧ isDisplay d = true ∧ d.showable = true ∧ d.hasDict = false ∧ d.depth ≤ 60 ∧ d.shown.length ≤ sizeLine ∧ Q (.str d.shown) H
theorem cr_repr {X : Cx} (hu : X.A.units + 64 < cLine) (hg : X.A.guards = some []) : CallR X (.builtin "repr") (rRepr X.K) := by
  intro pins s σ H vs us Q I r h
  obtain ⟨v, d, rfl, hd, hi, hs, hn, hz, hl, q⟩ := h
  obtain ⟨u, rfl, rv⟩ := vals1 r
  obtain ⟨as, rd⟩ := Dp.reads I d v u hd rv
  obtain ⟨a, rfl⟩ := isRef_of_reads rd hi
  exact repr_of_reads' rd hs (PyData.noDict_hsm hn) hg (by omega) (fun _ _ e => e) (fun h' t tk hk => ⟨.str d.shown, H, I.kept hk, ⟨t, rfl⟩, q⟩) hl

/-- a def of the text whose code object is known -/
structure FunC (K : PySem.W.Frag) (x qual : Str) (st : Stmt) (f : Addr) (fd : FuncData) (c : Addr) : Prop where
  ex : ∃ (oc : Value) (od : Option Addr) (kV doc pm : Value) (an : Option Addr) (ct : Value) (osl : Array (Option Value)),
    fd = PySem.W.fnOf x qual (defArgs st) (defBody st) (defScope st) .none kV doc pm an (.ref c) ct ∧ K.lookup f = some ⟨oc, od, .func fd, osl⟩ ∧ PySem.W.codeIn K (.ref c) qual = true
  kp : PySem.W.keepIn K (.ref f) = true
theorem FunC.ok {P : Program} {w : World} {K : PySem.W.Frag} {mg : Str → Option Value} {base : Heap} {x qual : Str} {st : Stmt} {f c : Addr} {fd : FuncData} {N ps : List Str} {k : Nat} {sp : Sp} (F : FunC K x qual st f fd c) (S : FnScope N ps (defScope st))
    (len : ∀ vs H Q E, sp vs H Q E → vs.length = ps.length)
    (hbody : ∀ (A : Around) (outer : List Env) (s : Shared) (H : Hp) (vs : List V) (Q : VK) (E : XK), Room k (A.deeper (envOfC qual (defScope st) s.heap.objs.size f (.ref c))) → sp vs H Q E →
      ∃ t, PSs (cxOf CX0 P w K mg base N qual (defScope st) f (.ref c) A outer s H E).nox (defBody st) t ∧ t { nx := fun _ H' => Q .non H', rt := Q } (start N vs) H) : FnOk P w K mg base CX0 (k + 1) f fd ps sp := by
  obtain ⟨oc, od, kV, doc, pm, an, ct, osl, rfl, lk, hcd⟩ := F.ex
  refine fn_of lk hcd S len fun A outer s H vs Q E hr hsp => ?_
  obtain ⟨t, h, q⟩ := hbody A outer s H vs Q E hr hsp
  exact ⟨t, h.nox, q⟩
theorem FunC.fn {K : PySem.W.Frag} {x qual : Str} {st : Stmt} {f c : Addr} {fd : FuncData} (F : FunC K x qual st f fd c) : Fun K x qual st f fd := by
  obtain ⟨oc, od, kV, doc, pm, an, ct, osl, e, lk, hcd⟩ := F.ex
  exact ⟨⟨oc, od, kV, doc, pm, an, .ref c, ct, osl, e, lk, hcd⟩, F.kp⟩

section
variable {P : Program} {w : World} {K : PySem.W.Frag} {mg mb : Str → Option Value} {fa a : Addr} {cs : List (Addr × Addr)} {fd : FuncData} {N : List Str} {x : Str} {st : Stmt} {s₁ : Shared} {vs : List Value} {ns : List Int}
/-- what a law's body is asked: from any base and state, at the caller that the claim names -/
def BodyOk (P : Program) (w : World) (K : PySem.W.Frag) (mg : Str → Option Value) (cs : List (Addr × Addr)) (N : List Str) (st : Stmt) (fa a : Addr) (ns : List Int) : Prop :=
  ∀ (base : Heap) (cdv : Value) (s : Shared) (H : Hp), L2.Mod K mg base → (∀ p ∈ cs, TabB base mg p.1 p.2) → (∀ p ∈ cs, H p.2 = some (.tbl #[])) → SqL K H a (ns.map V.int) →
    ∃ t, PSs (cxOf CX0 P w K mg base N "law" (defScope st) fa cdv callerA [] s H E0).nox (defBody st) t ∧ t { nx := fun _ _ => False, rt := fun v _ => v = .bl true } (start N [.ref a]) H
/-- from a heap that is told by H -/
theorem law_from {H : Hp} (Fn : Fun K "law" "law" st fa fd) (S : FnScope N [x] (defScope st)) (hbind : ∀ (s : Shared) (u : Value), BindsTo s fd ⟨[u], []⟩ [(x, u)]) (hr : Room 9 callerA)
    (B : BodyOk P w K mg cs N st fa a ns) (base : Heap) (M : L2.Mod K mg base) (hT : ∀ p ∈ cs, TabB base mg p.1 p.2) (hH : ∀ p ∈ cs, H p.2 = some (.tbl #[])) (hS : SqL K H a (ns.map V.int))
    (e0 : Env0 P w K mg base callerA [] s₁ H) :
    codeAny (model P w) callerA (.call (.ref fa) ⟨[.ref a], []⟩) (fun r s' => ∃ H', r = .ok (.ret (.bool true)) ∧ s'.os = s₁.os ∧ AllBare s'.gens ∧ Un [] [] H H' s₁.heap s'.heap ∧ HOk P w H' s'.heap) s₁ := by
  obtain ⟨oc, od, kV, doc, pm, an, cdv, ct, osl, rfl, lk, hcd⟩ := Fn.ex
  obtain ⟨t, ht, hq⟩ := B base cdv s₁ H M hT hH hS
  have KX : K.In s₁.heap := M.kin.keeps fun b o e => (e0.bs b o e).1
  have lim : s₁.heap.NoLimit := M.nolimit.keeps fun b o e => (e0.bs b o e).1
  have kinds : ∀ y ∈ [x].zip [Value.ref a], (defScope st).names.lookup y.1 = some .local ∨ ((defScope st).names.lookup y.1 = some .cell ∧ ((cellsFrom (s₁.heap.objs.size + 1) (defScope st).names []).lookup y.1).isSome = true) := fun ⟨n, v⟩ hy => by
    rcases S.par n (List.of_mem_zip hy).1 with q | q
    · exact .inl q
    · exact .inr ⟨q, PySem.W.cellsFrom_some _ _ _ (.inl q)⟩
  refine codeAny_call_function hr.depth (KX _ _ lk) rfl S.co S.gen rfl (PySem.W.codeRec_of KX hcd) (hbind s₁ (.ref a) _ _ _ _ ?_)
  refine wpAny_newFunctionEnv_cells S.kind kinds fun env he s1 X => ?_
  subst he
  refine ⟨lim.keeps X.toInCall.keep, codeAny_func ?_⟩
  have I : Inv (cxOf CX0 P w K mg base N "law" (defScope st) fa cdv callerA [] s₁ H E0) [] (start N [.ref a]) H s1 := inv_start (ps := [x]) (us := [.ref a]) S hr.hd e0 rfl (.cons rfl .nil) X
  refine wpAny_mono (ht.run [] s1 (start N [.ref a]) H _ (I.wish _) hq) (fun fl s' hs => ?_) fun e s' hs => hs.elim
  cases fl with
  | ret u =>
    obtain ⟨v, σ', H', J, rv, q⟩ := hs
    have q2 : v = .bl true := q
    subst q2
    obtain rfl : u = Value.bool true := rv
    exact ⟨H', rfl, J.os, J.bare, J.base, J.hok⟩
  | next =>
    obtain ⟨_, _, _, q⟩ := hs
    exact q.elim
  | brk =>
    obtain ⟨_, _, _, q⟩ := hs
    exact False.elim q
  | cont =>
    obtain ⟨_, _, _, q⟩ := hs
    exact False.elim q

/-- the law's call at the list a ends with True, and what was there is there still -/
abbrev SaysTrue (P : Program) (w : World) (fa a : Addr) (s : Shared) : Prop :=
  codeAny (model P w) callerA (.call (.ref fa) ⟨[.ref a], []⟩) (fun res t => res = .ok (.ret (.bool true)) ∧ OldK s.heap t.heap ∧ t.os = s.os ∧ AllBare t.gens) s
/-- code objects with their tables, all empty yet and none of K -/
def Bare (cs : List (Addr × Addr)) (K : PySem.W.Frag) (h : Heap) : Prop := ∀ p ∈ cs, (h.get? p.2 = some { cls := .none, data := .fields #[] } ∧ K.lookup p.2 = none) ∧ PySem.W.CodeHd h p.1 p.2
/-- the module of the builtins, where the main text finds it -/
def BltMod (mg : Str → Option Value) (h : Heap) : Prop := ∃ m : Addr, ∃ o : Obj, mg "__builtins__" = some (.ref m) ∧ m ≠ builtinsNs ∧ h.get? m = some o ∧ o.cls = .type "module" ∧ o.dict = some builtinsNs ∧ o.data = .plain
/-- the whole end: the heap as it stands behind the top -/
theorem law_end (KX : K.In s₁.heap) (hns : s₁.heap.Ns mainGlobals mg) (hb : s₁.heap.Ns builtinsNs mb) (hbb : ∀ x : Str, x ≠ "__name__" → mb x = bootBuiltins x) (hlim : s₁.heap.NoLimit) (hg : s₁.gens = #[])
    (hcs : Bare cs K s₁.heap) (hbm : BltMod mg s₁.heap)
    (ha : s₁.heap.get? a = some { cls := .type "list", data := .seq vs.toArray }) (hi : IntsAre vs ns) (hl : ns.length ≤ sizeLine)
    (Fn : Fun K "law" "law" st fa fd) (S : FnScope N [x] (defScope st)) (hbind : ∀ (s : Shared) (u : Value), BindsTo s fd ⟨[u], []⟩ [(x, u)]) (hr : Room 9 callerA) (B : BodyOk P w K mg cs N st fa a ns) :
    SaysTrue P w fa a s₁ := by
  have hT := fun p hp => (hcs p hp).1.1
  have nT := fun p hp => (hcs p hp).1.2
  have C := fun p hp => (hcs p hp).2
  -- the tables, the script
  let Ts := cs.map (·.2)
  have tab : ∀ b, b ∈ Ts → s₁.heap.get? b = some { cls := .none, data := .fields #[] } := fun b h => by
    obtain ⟨p, hp, rfl⟩ := List.mem_map.mp h
    exact hT p hp
  have inT : ∀ p ∈ cs, p.2 ∈ Ts := fun p hp => List.mem_map.mpr ⟨p, hp, rfl⟩
  have aNot : a ∉ Ts := fun z => by
    have q := (tab a z).symm.trans ha
    cases congrArg Obj.data (Option.some.inj q)
  have rv := vals_ints hi
  have frame : ∀ (u : Option HO), (u = none ∨ u = some (.frz { cls := .type "list", data := .seq vs.toArray } (.lst (ns.map V.int)))) → (u ≠ none → K.lookup a = none) →
      SqL K (fun b => if b = a then u else if b ∈ Ts then some (.tbl #[]) else none) a (ns.map V.int) →
      SaysTrue P w fa a s₁ := by
    intro u hu hKa hS
    generalize hHdef : (fun b => if b = a then u else if b ∈ Ts then some (HO.tbl #[]) else none : Hp) = H at hS
    have Ha : H a = u := by rw [← hHdef]; exact if_pos rfl
    have HT : ∀ b, b ∈ Ts → H b = some (.tbl #[]) := fun b h => by
      have nb : b ≠ a := fun z => aNot (z ▸ h)
      rw [← hHdef]
      exact (if_neg nb).trans (if_pos h)
    have HN : ∀ b, b ≠ a → b ∉ Ts → H b = none := fun b h1 h2 => by
      rw [← hHdef]
      exact (if_neg h1).trans (if_neg h2)
    have ok : HOk P w H s₁.heap := fun b o e => by
      by_cases h1 : b = a
      · subst h1
        rw [Ha] at e
        rcases hu with z | z
        · rw [z] at e; cases e
        · rw [z] at e
          cases e
          exact ⟨ha, by rw [List.length_map]; exact hl, vs, _, rv, ha⟩
      · by_cases h2 : b ∈ Ts
        · rw [HT b h2] at e
          cases e
          exact tab b h2
        · rw [HN b h1 h2] at e; cases e
    -- what is neither a list nor an empty table is not tracked
    have plain : ∀ {b : Addr} {o : Obj}, s₁.heap.get? b = some o → (∀ q n, o.data ≠ .seq q n) → o.data ≠ .fields #[] → H b = none := fun {b o} e h1 h2 => by
      refine HN b (fun z => ?_) fun z => ?_
      · rw [z, ha] at e
        cases e
        exact h1 _ _ rfl
      · rw [tab b z] at e
        cases e
        exact h2 rfl
    have dct : ∀ {b : Addr} {o : Obj} {es : Array DictEntry} {ep : Nat}, s₁.heap.get? b = some o → o.data = .dict es ep → H b = none := fun e d =>
      plain e (fun q n z => by rw [d] at z; cases z) fun z => by rw [d] at z; cases z
    have bg : ∀ {b : Addr} {o : Obj}, s₁.heap.get? b = some o → H b = none → (hidT s₁.heap H).get? b = some o := fun e n => hidT_get e n
    have nsB : ∀ {b : Addr} {m : Str → Option Value}, s₁.heap.Ns b m → (hidT s₁.heap H).Ns b m := fun ⟨o, es, ep, e, d, r⟩ => ⟨o, es, ep, bg e (dct e d), d, r⟩
    have KB : K.In (hidT s₁.heap H) := fun b o e => by
      refine bg (KX b o e) ?_
      by_cases h1 : b = a
      · rw [h1, Ha]
        rcases hu with z | z
        · exact z
        · have := hKa (by rw [z]; simp)
          rw [← h1, e] at this
          cases this
      · refine HN b h1 fun h2 => ?_
        obtain ⟨p, hp, ep⟩ := List.mem_map.mp h2
        rw [← ep, nT p hp] at e
        cases e
    have M : L2.Mod K mg (hidT s₁.heap H) := ⟨KB, nsB hns, ⟨mb, nsB hb, hbb⟩, let ⟨mc, h1, h2⟩ := hlim; ⟨mc, nsB h1, h2⟩⟩
    have TB : ∀ p ∈ cs, TabB (hidT s₁.heap H) mg p.1 p.2 := fun p hp => by
      have hTp := hT p hp
      refine ⟨?_, ?_, fun z => ?_⟩
      · obtain ⟨o, us, file, tf, flags, tg, inF, text, tt, e1, r1, r2, r3, r⟩ := C p hp
        refine ⟨o, us, file, tf, flags, tg, inF, text, tt, bg e1 (plain e1 (fun q n z => ?_) fun z => ?_), r1, r2, r3, r⟩
        · rw [r2] at z; cases z
        · rw [r2] at z
          cases z
          simp at r3
      · obtain ⟨bm, ob, b1, b2, b3, b4, b5, b6⟩ := hbm
        have nG : bm ≠ mainGlobals := fun q => by
          obtain ⟨o, es, ep, e, hd, _⟩ := hns
          rw [q, e] at b3
          cases b3
          rw [hd] at b6
          cases b6
        have nP : bm ≠ p.2 := fun q => by
          rw [q, hTp] at b3
          cases b3
          cases b6
        exact ⟨bm, ob, b1, b2, nG, nP, bg b3 (plain b3 (fun q n z => by rw [b6] at z; cases z) fun z => by rw [b6] at z; cases z), b4, b5, b6⟩
      · obtain ⟨o, es, ep, e, hd, _⟩ := hns
        rw [z, hTp] at e
        cases e
        cases hd
    have e0 : Env0 P w K mg (hidT s₁.heap H) callerA [] s₁ H :=
      ⟨rfl, M, fun b o e => of_hidT e, Nat.le_of_eq (hidT_size _ _), trivial, fun b hb => absurd (show b ∈ ([] : List Addr) from hb) List.not_mem_nil, ok, .of_eq hg⟩
    refine codeAny_mono (law_from Fn S hbind hr B _ M TB (fun p hp => HT _ (inT p hp)) hS e0) fun r s' h => ?_
    obtain ⟨H', rfl, os, bare, un, ok'⟩ := h
    have same : ∀ b o, b ∉ Ts → s₁.heap.get? b = some o → s'.heap.get? b = some o := fun b o nb e => by
      by_cases h1 : b = a
      · rcases hu with z | z
        · exact un.keep b o e (by rw [h1, Ha, z]) (by simp) (by simp)
        · have z1 : H a = some (.frz { cls := .type "list", data := .seq vs.toArray } (.lst (ns.map V.int))) := Ha.trans z
          obtain ⟨e2, _⟩ := ok' a _ (un.frzs a _ _ z1)
          rw [h1] at e ⊢
          rw [ha] at e
          cases e
          exact e2
      · exact un.keep b o e (HN b h1 nb) (by simp) (by simp)
    have grown : ∀ b, b ∈ Ts → ∃ more : Array Value, s'.heap.get? b = some { cls := .none, data := .fields more } := fun b h => by
      obtain ⟨more, z⟩ := un.tbls b #[] (HT b h)
      exact ⟨_, ok' b _ z⟩
    refine ⟨rfl, ⟨fun b o e => ?_, fun b o e => ?_⟩, os, bare⟩
    · by_cases h : b ∈ Ts
      · obtain ⟨more, hm⟩ := grown b h
        obtain ⟨p, hp, rfl⟩ := List.mem_map.mp h
        rw [hT p hp] at e
        cases e
        exact .inr (.inl ⟨((C p hp).tab (hT p hp)).isCodeTable, rfl, #[], more, rfl, by rw [Array.empty_append]; exact hm⟩)
      · exact .inl (same b o h e)
    · by_cases h : b ∈ Ts
      · obtain ⟨more, hm⟩ := grown b h
        exact ⟨_, hm⟩
      · exact ⟨o, same b o h e⟩
  cases hk : K.lookup a with
  | some o =>
    have e := KX a o hk
    rw [ha] at e
    cases e
    refine frame none (.inl rfl) (fun h => (h rfl).elim) (.inr ⟨_, vs.toArray, _, hk, rfl, rfl, rfl, ?_, by simpa using rv⟩)
    rw [List.size_toArray, hi.length]
    exact hl
  | none => exact frame _ (.inr rfl) (fun _ => hk) (.inl (.inr ⟨_, if_pos rfl⟩))
end
end Pu
set_option Elab.async false
set_option linter.all false
set_option maxRecDepth 100000
set_option maxHeartbeats 4000000
/-! enumerate of a tuple; for over either; calls by keywords alone; len(set(ints)). -/
namespace Pu
open PySem PySem.Spec PyProof.Rows L2 GxR

theorem meets_enum_tup (l : Addr) (items : Array Value) (n : Nat) (dct : Option Addr) (sl : Array (Option Value)) :
    Meets (Builtin.«enumerate.__new__» ⟨[.type "enumerate", .ref l], []⟩) (fun _ R s => s.heap.get? l = some { cls := .type "tuple", dict := dct, data := .seq items n, slots := sl } ∧
      R (.ok (.ret (.ref (s.heap.push { cls := .type "tuple_iterator", data := .fields #[.ref l, .int 0 0] }).objs.size)))
        { s with heap := (s.heap.push { cls := .type "tuple_iterator", data := .fields #[.ref l, .int 0 0] }).push { cls := .type "enumerate", data := .fields #[.none, .bool false, .ref s.heap.objs.size, rawInt 0, .none, .none] } }) :=
  .of_wp fun prog w A R s h => by
    obtain ⟨hp, g, d, tk, os⟩ := s
    obtain ⟨hl, h⟩ := h
    have sub := sub_enumerate
    have hL : Heap.IsTuple (Shared.heap ⟨hp, g, d, tk, os⟩) l items := ⟨_, hl, rfl, n, rfl⟩
    wp_walk using wpAny_loadPart' hl
    refine wpAny_stack_any fun st => wpAny_pure ?_
    split
    · rename_i c _ _ _ _ _
      cases (c == Value.type "enumerate")
      all_goals
        wp_walk using wpAny_loadPart' hl, wpAny_pyIter_tuple hL
        exact ⟨_, rfl, h⟩
    · wp_walk using wpAny_loadPart' hl, wpAny_pyIter_tuple hL
      exact ⟨_, rfl, h⟩

section
variable {prog : Program} {w : World} {A : Around} {E : Value → Shared → Prop} {s : Shared}
theorem call_enum_tup {t : Addr} {items : Array Value} {Q : Value → Shared → Prop} (hL : s.heap.IsTuple t items)
    (h : ∀ h', IsEnum h' (s.heap.objs.size + 1) s.heap.objs.size 0 .none → h'.IsTupleIter s.heap.objs.size t 0 → (∀ b o, s.heap.get? b = some o → h'.get? b = some o) → Q (.ref (s.heap.objs.size + 1)) { s with heap := h' }) :
    wpAny (model prog w) A (call (.type "enumerate") [.ref t]) Q E s := by
  obtain ⟨⟨c, dct, dt, sl⟩, hl, hc, n, hd⟩ := hL
  have hc2 : c = .type "tuple" := hc
  have hd2 : dt = .seq items n := hd
  subst hc2 hd2
  refine callType_new F.called_enumerate (by decide) (F.typeCall_enumerate_1 _) (F.newCall_enumerate_1 _) (fun obj => F.args_object_init_2 obj _) F.entry_enumerate_new (meets_enum_tup t items n dct sl) ⟨hl, ?_⟩
  have hz : (s.heap.push { cls := .type "tuple_iterator", data := .fields #[.ref t, .int 0 0] }).objs.size = s.heap.objs.size + 1 := Heap.size_push ..
  show _ ∧ _
  rw [hz]
  have he : IsEnum ((s.heap.push { cls := .type "tuple_iterator", data := .fields #[.ref t, .int 0 0] }).push
      { cls := .type "enumerate", data := .fields #[.none, .bool false, .ref s.heap.objs.size, rawInt 0, .none, .none] }) (s.heap.objs.size + 1) s.heap.objs.size 0 .none := by
    have q := Heap.get?_push_size (s.heap.push { cls := .type "tuple_iterator", data := .fields #[.ref t, .int 0 0] })
      (o := { cls := .type "enumerate", data := .fields #[.none, .bool false, .ref s.heap.objs.size, rawInt 0, .none, .none] }) rfl
    rw [hz] at q
    exact q
  exact ⟨⟨_, he, rfl⟩, h _ he ⟨_, Heap.get?_push_of_some _ (Heap.get?_push_size _ rfl), rfl, rfl⟩ fun b o x => Heap.get?_push_of_some _ (Heap.get?_push_of_some _ x)⟩
end
/-- the tuple at a as it stands at each turn, each item in a new pair -/
def Ite2 (K : PySem.W.Frag) (a : Addr) : It :=
  ⟨fun i H => ∃ (xs : List V) (x : V), SqT K H a xs ∧ xs[i]? = some x,
    fun i H v H' => ∃ T x, v = .ref T ∧ H T = none ∧ H' = upd H T (.tup [.int (i : Nat), x]) ∧ ∀ xs, SqT K H a xs → xs[i]? = some x,
    fun i H => ∃ xs : List V, SqT K H a xs ∧ xs.length = i⟩
theorem turn_enumT {P : Program} {w : World} {K : PySem.W.Frag} {elts : List Expr} {kk : Nat} {tpos : Pos} (a e it : Addr) (hat : a ≠ it) (hae : a ≠ e) :
    Turn P w K (.Tuple elts kk tpos) (Ite2 K a) [e, it] e (fun i h => (∃ old, IsEnum h e it ((i : Nat) : Int) old) ∧ h.IsTupleIter it a i ∧ e ≠ it) where
  mem := by simp
  obj := fun i h st b hb => by
    obtain ⟨⟨old, he⟩, ⟨o, ho, hc, hd⟩, _⟩ := st
    rcases List.mem_cons.mp hb with z | z
    · rw [z]
      exact ⟨_, he, fun v q => nomatch q⟩
    · rw [List.mem_singleton.mp z]
      exact ⟨o, ho, fun v q => by rw [hd] at q; cases q⟩
  keep := fun i h h' st k => by
    obtain ⟨⟨old, he⟩, hi, hne⟩ := st
    exact ⟨⟨old, k e (by simp) _ he⟩, hi.at fun o q => k it (by simp) o q, hne⟩
  item := by
    intro X hP hw hK hc i pins s σ H E I hf st hg
    subst hP hw hK
    obtain ⟨⟨old, he⟩, hit, hne⟩ := st
    obtain ⟨xs, x, hq, hx⟩ := hg
    obtain ⟨its, rv, p, hz⟩ := I.tuple hq
    obtain ⟨u, hu, ru⟩ := rv.get hx
    have hel : e < s.heap.objs.size := Heap.lt_size he
    have hil : it < s.heap.objs.size := by
      obtain ⟨_, q, _⟩ := hit
      exact Heap.lt_size q
    have hd : X.A.handled = none := I.ok.hd hc
    have hlt : i < its.toArray.size := by
      rw [List.size_toArray]
      exact (List.getElem?_eq_some_iff.mp hu).1
    refine wpAny_pyNext_enum_itemD (Draws.tuple (A := X.A.in1) hd it a hat its.toArray) he ⟨hit, p⟩ hlt hne (by simp [hne, Ne.symm hae]) fun x' h' tk hP ho st' hT hsz hk => ?_
    have ex : x' = u := by
      have q : its.toArray[i]? = some x' := hP
      rw [List.getElem?_toArray, hu] at q
      exact (Option.some.inj q).symm
    subst ex
    refine ⟨_, rfl, wpAny_letOwnedTupleGo_enum (s := { s with heap := h', toks := tk + 1 }) ho fun h'' he' sb => ?_⟩
    have hT2 : h''.get? s.heap.objs.size = some { cls := .type "tuple", data := .seq #[.int i tk, x'] } := (sb.2 _ (Nat.ne_of_gt hel)).trans hT
    have new : ObjOk X.prog X.w (upd H s.heap.objs.size (.tup [.int (i : Nat), x])) h'' s.heap.objs.size (.tup [.int (i : Nat), x]) :=
      ⟨by show 2 ≤ sizeLine; decide, [.int i tk, x'], .cons ⟨_, rfl⟩ (.cons ru .nil), ⟨_, hT2, rfl, _, rfl⟩⟩
    have I1 : Inv X pins σ (upd H s.heap.objs.size (.tup [.int (i : Nat), x])) { s with heap := h'', toks := tk + 1 } :=
      I.turnedNew (ch := [e, it]) (fun b ob hb q => (sb.2 b (fun z => hb (by simp [z]))).trans (hk b ob (fun z => hb (by simp [z])) (fun z => hb (by simp [z])) q)) hf (Nat.le_refl _) new
    refine ⟨.ref s.heap.objs.size, _, I1, rfl, ⟨_, x, rfl, I.hok.fresh (Nat.le_refl _), rfl, fun ys hy => by rw [I.tuple_inj hy hq]; exact hx⟩, ⟨⟨x', ?_⟩, st'.1.at fun o q => (sb.2 it (Ne.symm hne)).trans q, hne⟩, fun b hb => ?_⟩
    · have e1 : ((i + 1 : Nat) : Int) = (i : Int) + 1 := by omega
      rw [e1]
      exact he'
    · have hb2 : b < s.heap.objs.size := by
        rcases List.mem_cons.mp hb with z | z
        · rw [z]; exact hel
        · rw [List.mem_singleton.mp z]; exact hil
      rw [upd_ne (Nat.ne_of_lt hb2)]
      exact (hf b hb).1
  done := by
    intro X hP hw hK hc i pins s σ H E I hf st hg
    subst hP hw hK
    obtain ⟨⟨old, he⟩, hit, hne⟩ := st
    obtain ⟨xs, hq, hx⟩ := hg
    obtain ⟨its, rv, p, hz⟩ := I.tuple hq
    obtain ⟨f0, f1, f2, f3, f4, f5⟩ := hf it (by simp)
    have hl := rv.length
    have hd : X.A.handled = none := I.ok.hd hc
    have hi : i = its.toArray.size := by rw [List.size_toArray, ← hl, hx]
    subst hi
    exact wpAny_pyNext_enum_endD (Draws.tuple (A := X.A.in1) hd it a hat its.toArray) he ⟨hit, p⟩ fun h' eb => ⟨rfl, I.turned (t' := s.toks) (fun b o hb q => eb b o hb q) f0 f1 f3 f4 f5⟩
  self := fun A i s Q E st h => by
    obtain ⟨⟨_, he⟩, _⟩ := st
    exact wpAny_pyIter_enum he h
theorem walk_enumT {K : PySem.W.Frag} {a : Addr} {xs : List V} :
    Walk (Ite2 K a) xs.length (fun H => SqT K H a xs) (YPair (fun i => some (.int (i : Nat))) (fun i => xs[i]?)) := by
  refine ⟨fun i _ hi q => ⟨xs, xs[i], q, by simp [hi]⟩, fun _ q => ⟨xs, q, rfl⟩, fun i H v H' _ q y => ?_⟩
  obtain ⟨T, x, h1, h2, h3, h4⟩ := y
  exact ⟨T, .int (i : Nat), x, h1, h2, h3, rfl, h4 xs q⟩
def iEnumT (K : PySem.W.Frag) (ta : TA) : TI := fun σ H R => ta σ H fun vs H1 => ∃ a xs, vs = [.ref a] ∧ SqT K H1 a xs ∧ R (Ite2 K a) H1
section
variable {X : Cx} {tg : Expr}
theorem pi_enumT {e : Expr} {ta : TA} {p pos tpos : Pos} {elts : List Expr} {kk : Nat} (hg : Gl X "enumerate") (hm : X.mg "enumerate" = none) (ha : PA X [e] ta) (hs : starEach [e] X.env = [(false, eval e X.env)] := by rfl) :
    PI X (.Tuple elts kk tpos) (.Call (.Name "enumerate" p) [e] [] pos) (iEnumT X.K ta) := by
  refine ⟨fun pins s σ H R I h => Call_ (ld_blt I hg hm boot_enumerate (PyProof.Rows.callWith_type1 (thn (ha.run pos pins s σ H _ I h) fun us s1 ⟨vs, H1, I1, r1, q1⟩ => ?_) hs rfl))⟩
  obtain ⟨a, xs, rfl, hq, q⟩ := q1
  obtain ⟨u, rfl, r⟩ := vals1 r1
  cases (show u = Value.ref a from r)
  obtain ⟨its, rv, p', hz⟩ := I1.tuple hq
  have hat : a < s1.heap.objs.size := p'.lt
  refine call_enum_tup (show s1.heap.IsTuple a its.toArray from p') fun h' he hit hk => wpAny_pyIter_enum he ?_
  have I2 : Inv X pins σ H1 { s1 with heap := h' } := I1.kept (t' := s1.toks) hk
  refine ⟨s1.heap.objs.size + 1, [s1.heap.objs.size + 1, s1.heap.objs.size], _, _, H1, rfl, I2, turn_enumT a (s1.heap.objs.size + 1) s1.heap.objs.size (Nat.ne_of_lt hat) (Nat.ne_of_lt (Nat.lt_succ_of_lt hat)), ⟨⟨.none, he⟩, hit, Nat.succ_ne_self _⟩, fun b hb => ?_, q⟩
  have hle : s1.heap.objs.size ≤ b := by
    rcases List.mem_cons.mp hb with z | z
    · rw [z]
      exact Nat.le_add_right _ _
    · rw [List.mem_singleton.mp z]
      exact Nat.le_refl _
  exact I1.fpOk hle (I1.hok.fresh hle)

/-- a, b = a tuple or a list of two .. -/
def gSeq (K : PySem.W.Frag) (n : Nat) (t : TGs) : TG := fun v σ H Q => ∃ a xs, v = .ref a ∧ (SqT K H a xs ∨ SqL K H a xs) ∧ xs.length = n ∧ t xs σ H Q
theorem pg_seq {es : List Expr} {k : Nat} {pos : Pos} {t : TGs} {n : Nat} (hc : X.calm = true) (h : PGs X es t) (hn : (assignEach es X.env).length = n := by rfl) (hst : (assignEach es X.env).findIdx? (·.1) = none := by rfl) :
    PG X (.Tuple es k pos) (gSeq X.K n t) := by
  refine ⟨fun pins s σ H v u Q I r hw => ?_⟩
  obtain ⟨a, xs, e, hq | hq, hl, hw⟩ := hw
  · exact (pg_tup (n := n) hc h hn hst).run pins s σ H v u Q I r ⟨a, xs, e, hq, hl, hw⟩
  · exact (pg_lst (n := n) hc h hn hst).run pins s σ H v u Q I r ⟨a, xs, e, hq, hl, hw⟩
/-- for over a tuple or a list: whichever it is -/
def iSeq (K : PySem.W.Frag) (tl : TE) : TI := fun σ H R => tl σ H fun v H1 => ∃ (a : Addr) (xs : List V), v = .ref a ∧ (SqT K H1 a xs ∨ SqL K H1 a xs) ∧
  ∀ (J : It) (G : Hp → Prop), Walk J xs.length G (YAt xs) → (∀ H', Evl.Ex H1 H' → G H') → R J H1
theorem pi_seq {l : Expr} {tl : TE} (hl : PE X l tl) : PI X tg l (iSeq X.K tl) := by
  refine ⟨fun pins s σ H R I h => thn (hl.run pins s σ H _ I h) fun v s1 ⟨x, H1, I1, r1, q1⟩ => ?_⟩
  obtain ⟨a, xs, rfl, hq, q⟩ := q1
  cases (show v = Value.ref a from r1)
  have fin : ∀ b ∈ [s1.heap.objs.size], FpOk X pins H1 b := fun b hb => by
    rw [List.mem_singleton.mp hb]
    exact I1.fpOk (Nat.le_refl _) (I1.hok.fresh (Nat.le_refl _))
  rcases hq with hq | hq
  · obtain ⟨its, rv, p, hz⟩ := I1.tuple hq
    refine wpAny_pyIter_tuple (show s1.heap.IsTuple a its.toArray from p) ?_
    exact ⟨s1.heap.objs.size, [s1.heap.objs.size], _, _, H1, rfl, I1.kept (t' := s1.toks) (fun b o e => Heap.get?_push_of_some _ e), turn_tuple a _, ⟨_, Heap.get?_push_size _ rfl, rfl, rfl⟩, fin, q _ _ walk_tup fun H' e => Evl.ex_t e hq⟩
  · obtain ⟨its, rv, p, hz⟩ := I1.list hq
    refine wpAny_pyIter_list p.isList ?_
    exact ⟨s1.heap.objs.size, [s1.heap.objs.size], _, _, H1, rfl, I1.kept (t' := s1.toks) (fun b o e => Heap.get?_push_of_some _ e), turn_list a _, ⟨_, Heap.get?_push_size _ rfl, rfl, rfl⟩, fin, q _ _ walk_list fun H' e => Evl.ex_l e hq⟩

/-- f(k = v, ..) -/
def tCallW (sp : Sp) (gV : List V → List V) (E : XK) (tk : TA) : TE := fun σ H Q => tk σ H fun zs H2 => sp (gV zs) H2 Q E
structure KwOk (K : PySem.W.Frag) (fd : FuncData) (ps ks : List Str) (g : List Value → List Value) (gV : List V → List V) : Prop where
  to : ∀ (s : Shared) (ws : List Value), K.In s.heap → (g ws).length = ps.length → BindsTo s fd ⟨[], ks.zip ws⟩ (ps.zip (g ws))
  rel : ∀ {zs : List V} {ws : List Value}, Vals zs ws → Vals (gV zs) (g ws)
theorem pe_callW {CX : CXT} {k : Nat} {f : Addr} {fd : FuncData} {ps ks : List Str} {sp : Sp} {E : XK} {x : Str} {p pos : Pos} {kws : List Keyword} {tk : TA} {g : List Value → List Value} {gV : List V → List V}
    (F : FnOk X.prog X.w X.K X.mg X.base CX k f fd ps sp) (hr : Room k X.A) (hg : Gl X x) (hm : X.mg x = some (.ref f)) (hk : PySem.W.keepIn X.K (.ref f) = true) (hb : KwOk X.K fd ps ks g gV) (hx : Passes CX X E)
    (hkw : PK X kws tk) (hall : (backToKw pos (keywordEach kws X.env)).all (·.1.isSome) = true := by rfl) (hks : (backToKw pos (keywordEach kws X.env)).filterMap (·.1) = ks := by rfl)
    (hdb : (x == ("__debug__" : Str)) = false := by decide) (hpl : ((backTo pos (starEach [] X.env)).any (·.1) || (backToKw pos (keywordEach kws X.env)).any (·.1.isNone)) = false := by rfl) :
    PE X (.Call (.Name x p) [] kws pos) (tCallW sp gV E tk) := by
  refine ⟨fun pins s σ H Q I h => wpAny_Call_Name_kw (ld_glob I hg hm (PySem.W.callWith_KW0 (h₀ := X.base) I.ok.mod.kin hk hall ?_ hpl) hdb)⟩
  refine thn (hkw.run pos pins s σ H _ I h) fun ws s2 ⟨zs, H2, I2, rz, q2⟩ => ⟨I2.kIn, ?_⟩
  rw [hks]
  show wpAny _ _ (call (.ref f) [] (ks.zip ws)) _ _ _
  have r2 := hb.rel rz
  have hl : (g ws).length = ps.length := by rw [← r2.length]; exact F.len _ _ _ _ q2
  refine wpAny_call (codeAny_mono (F.run X.A X.stack s2 H2 ⟨[], ks.zip ws⟩ (g ws) (gV zs) Q E hr I2.env0 (hb.to s2 ws I2.kIn hl) r2 q2) fun r s' hq => ?_)
  cases r with
  | error e => exact hx pins σ H2 s2 e s' I2 hq
  | ok fl =>
    cases fl with
    | ret u => exact I2.after hq
    | next => exact False.elim hq
    | brk => exact False.elim hq
    | cont => exact False.elim hq

/-- len(set(ints)) -/
def tLenSet (K : PySem.W.Frag) (ta : TE) : TE := fun σ H Q => ta σ H fun x H1 => ∃ (l : Addr) (ns : List Int), x = .ref l ∧ SqL K H1 l (ns.map V.int) ∧ ns.length ≤ 4000 ∧ Q (.int ((PyProof.Rows.firstMet (fun i => ns.getD i 0) ns.length).length : Nat)) H1
theorem pe_lenSet {a : Expr} {ta : TE} {p p2 q pos : Pos} (hg : Gl X "len") (hm : X.mg "len" = none) (hg2 : Gl X "set") (hm2 : X.mg "set" = none) (ha : PE X a ta) (hc : X.calm = true := by rfl)
    (na : starEach [a] X.env = (false, eval a X.env) :: starEach [] X.env := by rfl) : PE X (.Call (.Name "len" p) [.Call (.Name "set" p2) [a] [] q] [] pos) (tLenSet X.K ta) := by
  refine ⟨fun pins s σ H Q I h => Call_ (ld_blt I hg hm boot_len (PyProof.Rows.callWith_builtin1 (PyProof.Rows.args_cons (Call_ (ld_blt I hg2 hm2 boot_set ?_)) rfl) rfl rfl))⟩
  refine PyProof.Rows.callWith_type1 (PyProof.Rows.args_cons (thn (ha.run pins s σ H _ I h) fun v s1 ⟨x, H1, I1, r1, q1⟩ => PyProof.Rows.args_nil ?_) na) na rfl
  obtain ⟨l, ns, rfl, hq, hl, q1⟩ := q1
  cases (show v = Value.ref l from r1)
  obtain ⟨its, r, pl, hz⟩ := I1.list hq
  have hlen : its.toArray.size = ns.length := by rw [List.size_toArray, ← r.length, List.length_map]
  refine call_set_list (I1.ok.hd hc) pl.isList (by simpa using RZ.intsAre_vals r) (by rw [hlen]; unfold scanBound; omega) fun h' tk hS hk => PyProof.Rows.args_nil ?_
  rw [hlen] at hS
  have hle := PyProof.Rows.firstMet_length_le (fun i => ns.getD i 0) ns.length
  obtain ⟨o, es, ep, t, ho, hex, hd, _, _, _, hf, hn⟩ := hS
  have I2 : Inv X pins σ H1 { s1 with heap := h', toks := tk } := I1.kept fun b o e => hk b o (Heap.lt_size e) e
  exact call_len_set ho hex hd hf (by rw [hn] <;> omega) ⟨.int _, H1, I2.tok _, ⟨_, by rw [hn]⟩, q1⟩
end
end Pu
set_option Elab.async false
set_option linter.all false
set_option maxRecDepth 100000
set_option maxHeartbeats 4000000
/-! what values are, at a heap; the builtins that tell it; a pure def as a promise of the layer. -/
namespace Pu
open PySem PySem.Spec PyProof.Rows L2 GxR

/-- a tuple (b = true) or a list of these, at a -/
def SeqG (g : Heap) (b : Bool) (a : Addr) (its : List Value) : Prop := its.length ≤ sizeLine ∧ if b = true then IsTup g a its.toArray else PlainL g a its.toArray
theorem SeqG.mono {g h : Heap} {b : Bool} {a : Addr} {its : List Value} (x : SeqG g b a its) (e : Ext g h) : SeqG h b a its := by
  refine ⟨x.1, ?_⟩
  cases b with
  | true =>
    obtain ⟨o, ho, r⟩ := (show IsTup g a its.toArray from x.2)
    exact ⟨o, e _ _ ho, r⟩
  | false => exact (show PlainL g a its.toArray from x.2).keeps e
inductive TyG (g : Heap) : V → String → Prop
  | non : TyG g .non "NoneType"
  | bl (b : Bool) : TyG g (.bl b) "bool"
  | int (i : Int) : TyG g (.int i) "int"
  | str (x : Str) : TyG g (.str x) "str"
  | tup {a : Addr} {its : List Value} (h : SeqG g true a its) : TyG g (.ref a) "tuple"
  | lst {a : Addr} {its : List Value} (h : SeqG g false a its) : TyG g (.ref a) "list"
theorem TyG.mono {g h : Heap} {x : V} {t : String} (y : TyG g x t) (e : Ext g h) : TyG h x t := by
  cases y with
  | non => exact .non
  | bl b => exact .bl b
  | int i => exact .int i
  | str x => exact .str x
  | tup q => exact .tup (q.mono e)
  | lst q => exact .lst (q.mono e)
theorem TyG.kit {K : PySem.W.Frag} {g : Heap} {x : V} {t : String} {u : Value} (y : TyG g x t) (r : RelV x u) : ∃ P : Heap → Prop, PySem.W.KitX K u (.type t) P ∧ P g ∧ u ≠ .builtin "__main__.__loader__#opaque" := by
  cases y with
  | non => cases (show u = Value.none from r); exact ⟨_, PySem.W.kitx_none, True.intro, fun z => nomatch z⟩
  | bl b => cases (show u = Value.bool b from r); exact ⟨_, PySem.W.kitx_bool, True.intro, fun z => nomatch z⟩
  | int i => obtain ⟨t, rfl⟩ := (show ∃ t, u = Value.int i t from r); exact ⟨_, PySem.W.kitx_int, True.intro, fun z => nomatch z⟩
  | str y => obtain ⟨t, rfl⟩ := (show ∃ t, u = Value.str y t from r); exact ⟨_, PySem.W.kitx_str, True.intro, fun z => nomatch z⟩
  | @tup a its q =>
    cases (show u = Value.ref a from r)
    obtain ⟨o, h1, h2, _⟩ := (show IsTup g a its.toArray from q.2)
    exact ⟨_, PySem.W.kitx_tuple, ⟨o, h1, h2⟩, fun z => nomatch z⟩
  | @lst a its q =>
    cases (show u = Value.ref a from r)
    obtain ⟨o, n, h1, h2, _⟩ := (show PlainL g a its.toArray from q.2)
    exact ⟨_, PySem.W.kitx_list, ⟨o, h1, h2⟩, fun z => nomatch z⟩
/-- what kind of thing an abstract heap tells -/
theorem TyG.of_sq {P : Program} {w : World} {K : PySem.W.Frag} {H : Hp} {h : Heap} {a : Addr} {xs : List V} (ok : HOk P w H h) (kin : K.In h) (q : SqT K H a xs ∨ SqL K H a xs) : ∃ (b : Bool) (its : List Value), Vals xs its ∧ SeqG h b a its := by
  rcases q with q | q
  · rcases q with q | ⟨o, its, n, hk, hc, hs, hz, r⟩
    · obtain ⟨z, its, r, p⟩ := q.ok ok
      exact ⟨true, its, r, by rw [← r.length]; exact z, p⟩
    · refine ⟨true, its.toList, r, by simpa using hz, ?_⟩
      exact ⟨o, kin a o hk, hc, n, by simpa using hs⟩
  · rcases q with q | ⟨o, its, n, hk, hc, hd, hs, hz, r⟩
    · obtain ⟨z, its, n, r, e⟩ := q.ok ok
      exact ⟨false, its, r, by rw [← r.length]; exact z, ⟨_, n, e, rfl, rfl, rfl⟩⟩
    · exact ⟨false, its.toList, r, by simpa using hz, ⟨o, n, kin a o hk, hc, hd, by simpa using hs⟩⟩
theorem TyG.seq {g : Heap} {b : Bool} {a : Addr} {its : List Value} (q : SeqG g b a its) : TyG g (.ref a) (if b = true then "tuple" else "list") := by
  cases b with
  | true => exact .tup q
  | false => exact .lst q

section
variable {P : Program} {w : World} {K : PySem.W.Frag} {mg : Str → Option Value} {base : Heap} {A : Around} {env : Env} {g : Heap}
/-- isinstance(x, T) -/
theorem ev_isi {p q pos : Pos} {e : Expr} {n : Str} {T t : String} {x : V} {b : Bool} (F : FrP K mg base A env g) (hg : env.kindOf "isinstance" = some .globalImplicit) (hm : mg "isinstance" = none) (he : EV P w A env g e x) (ty : TyG g x t)
    (hg2 : env.kindOf n = some .globalImplicit) (hm2 : mg n = none) (hv : bootBuiltins n = some (.type T)) (kb : kitB t T = some b) (hn : n ≠ "__name__" := by decide) (hd : (n == ("__debug__" : Str)) = false := by decide)
    (h1 : starEach [e, .Name n q] env = (false, eval e env) :: starEach [.Name n q] env := by rfl) (h2 : starEach [.Name n q] env = (false, eval (.Name n q) env) :: starEach [] env := by rfl)
    (hpl : (backTo pos (starEach [.Name n q] env)).any (·.1) = false := by rfl) (hvi : bootBuiltins "isinstance" = some (.builtin "isinstance") := by decide +kernel) : EV P w A env g (.Call (.Name "isinstance" p) [e, .Name n q] [] pos) (.bl b) := by
  refine ev_bltcall (vs := [x, .ty T]) F hg hm hvi (ea_cons he (ea_cons (ev_blt (v := .ty T) F hg2 hm2 hv rfl hn hd) ea_nil h2) h1) (fun s us Q E hx r hQ => ?_) (by decide) (by decide) h1 hpl
  obtain ⟨u1, u2, rfl, r1, r2⟩ := vals2 r
  cases (show u2 = Value.type T from r2)
  obtain ⟨Pp, Z, pp, hne⟩ := (ty.mono hx).kit (K := K) r1
  exact PySem.W.kia_one Z (F.mod.kin.keeps fun b o e => hx b o (F.ext b o e)) pp (kit_ty kb) hne fun tk => hQ _ s.heap tk rfl fun _ _ e => e
/-- isinstance(x, (T, ..)) -/
theorem ev_isiT {p pos tp : Pos} {k : Nat} {e : Expr} {es : List Expr} {Ts : List String} {t : String} {x : V} {b : Bool} (F : FrP K mg base A env g) (hg : env.kindOf "isinstance" = some .globalImplicit) (hm : mg "isinstance" = none) (he : EV P w A env g e x) (ty : TyG g x t)
    (ha : EA P w A env g es (Ts.map V.ty)) (kb : PySem.W.kitAny K (.type t) (Ts.map Value.type) = some b) (hl : Ts.length ≤ 1000)
    (h1 : starEach [e, .Tuple es k tp] env = (false, eval e env) :: starEach [.Tuple es k tp] env := by rfl) (h2 : starEach [.Tuple es k tp] env = (false, eval (.Tuple es k tp) env) :: starEach [] env := by rfl)
    (hpl : (backTo pos (starEach [.Tuple es k tp] env)).any (·.1) = false := by rfl) (hvi : bootBuiltins "isinstance" = some (.builtin "isinstance") := by decide +kernel) : EV P w A env g (.Call (.Name "isinstance" p) [e, .Tuple es k tp] [] pos) (.bl b) := fun s Q E hx hQ => by
  obtain ⟨mb, q1, q2⟩ := F.mod.blt
  have hb : Ext base s.heap := fun b o e => hx b o (F.ext b o e)
  refine wpAny_Call_Name_kw (Calls.Name_function_global F.kind hg (Calls.loadGlobal_builtin (by rw [F.glob]; exact F.mod.glob.keeps hb) hm (by rw [F.blt]; exact q1.keeps hb) ((q2 _ (by decide)).trans hvi) ?_) (by decide))
  refine PyProof.Rows.callWith_builtin1 ?_ h1 hpl
  rw [h1]
  show wpAny _ _ (spliced ((false, eval e env) :: backTo pos (starEach [.Tuple es k tp] env))) _ _ s
  refine Calls.spliced_cons (he s _ E hx fun u h' tk r hk => ?_)
  rw [h2]
  show wpAny _ _ (spliced ((false, eval (.Tuple es k tp) env) :: backTo pos (starEach [] env))) _ _ _
  refine Calls.spliced_cons (wpAny_Tuple_spliced (ha _ { s with heap := h', toks := tk } _ E (fun b o e => hk b o (hx b o e)) fun us h2 t2 r2 k2 => ⟨?_, Calls.spliced_nil ?_⟩))
  · rw [← r2.length, List.length_map]
    exact Nat.le_trans hl (by decide)
  · have e2 : us = Ts.map Value.type := by
      clear kb hl hQ ha
      induction Ts generalizing us with
      | nil => cases r2; rfl
      | cons T Ts ih =>
        cases r2 with
        | cons ra rb =>
          rw [show _ = Value.type T from ra, ih _ rb]
          rfl
    subst e2
    have kx : Ext s.heap (h2.push { cls := .type "tuple", data := .seq (Ts.map Value.type).toArray }) := fun b o e => Heap.get?_push_of_some _ (k2 b o (hk b o e))
    have gx : Ext g (h2.push { cls := .type "tuple", data := .seq (Ts.map Value.type).toArray }) := fun b o e => kx b o (hx b o e)
    obtain ⟨Pp, Z, pp, hne⟩ := (ty.mono gx).kit (K := K) r
    exact PySem.W.kia_tup Z (F.mod.kin.keeps fun b o e => gx b o (F.ext b o e)) pp (Heap.get?_push_size _ rfl) kb hne fun tk3 => hQ _ _ tk3 rfl kx
/-- len(x) of a tuple or a list -/
theorem ev_len {p pos : Pos} {e : Expr} {a : Addr} {bb : Bool} {its : List Value} (F : FrP K mg base A env g) (hg : env.kindOf "len" = some .globalImplicit) (hm : mg "len" = none) (he : EV P w A env g e (.ref a)) (sq : SeqG g bb a its)
    (h1 : starEach [e] env = (false, eval e env) :: starEach [] env := by rfl) (hpl : (backTo pos (starEach [] env)).any (·.1) = false := by rfl) : EV P w A env g (.Call (.Name "len" p) [e] [] pos) (.int its.length) := by
  refine ev_bltcall (vs := [.ref a]) F hg hm boot_len (ea_cons he ea_nil h1) (fun s us Q E hx r hQ => ?_) (by decide) (by decide) h1 hpl
  obtain ⟨u, rfl, r1⟩ := vals1 r
  cases (show u = Value.ref a from r1)
  have hl := line63
  have hz := (sq.mono hx).1
  have hsz : its.toArray.size = its.length := by simp
  have fin : ∀ t1 t2, Q (.int its.length t1) { s with toks := t2 } := fun t1 t2 => hQ _ s.heap t2 ⟨_, rfl⟩ fun _ _ e => e
  cases bb with
  | true => exact len_tuple (show IsTup s.heap a its.toArray from (sq.mono hx).2) (by rw [hsz]; omega) (by rw [hsz]; exact fin _ _)
  | false => exact Calls.call_len_list (show PlainL s.heap a its.toArray from (sq.mono hx).2).isList (by rw [hsz]; omega) (by rw [hsz]; exact fin _ _)
/-- x[i], i written -/
theorem ev_ix {pos : Pos} {e ie : Expr} {a : Addr} {bb : Bool} {its : List Value} {j : Nat} {u : Value} {v : V} (F : FrP K mg base A env g) (he : EV P w A env g e (.ref a)) (hi : EV P w A env g ie (.int j)) (sq : SeqG g bb a its) (hj : its[j]? = some u) (r : RelV v u) (hs : PlainIx ie := by exact fun _ _ => rfl) :
    EV P w A env g (.Subscript e ie pos) v := fun s Q E hx hQ => by
  refine Subscript_ (he s _ E hx fun o h' tk ro hk => hi { s with heap := h', toks := tk } _ E (fun b o e => hk b o (hx b o e)) fun iv h2 t2 ri k2 => ?_)
  cases (show o = Value.ref a from ro)
  obtain ⟨t, rfl⟩ := (show ∃ t, iv = Value.int j t from ri)
  have gx : Ext g h2 := fun b o e => k2 b o (hk b o (hx b o e))
  have lt : j < its.length := (List.getElem?_eq_some_iff.mp hj).1
  have hn := line63
  have hz := sq.1
  have fin : Q u { s with heap := h2, toks := t2 } := hQ u h2 t2 r fun b o e => k2 b o (hk b o e)
  have ej : its.toArray[j]? = some u := by simpa using hj
  cases bb with
  | true =>
    have p : IsTup h2 a its.toArray := (sq.mono gx).2
    exact subscriptTail_builtinR (x := u) p.typeIs slot_tuple_getitem.lookup
      (PyProof.Rows.getItem_tuple (j := j) (Q := fun r s' => r = u ∧ Q r s') p (by omega) (by omega) (seqIndex_of (by omega) (by simpa using lt)) ej ⟨rfl, fin⟩) (hs _ _)
  | false =>
    have p : PlainL h2 a its.toArray := (sq.mono gx).2
    exact item_listR p.isList (by omega) (by omega) (by simpa using ej) fin (hs _ _)
end

/-- a pure def as a promise of the layer -/
def spPure (P : Program) (w : World) (base : Heap) (ps : List Str) (sp : List V → Heap → V → Prop) : Sp := fun vs H Q _ => vs.length = ps.length ∧ ∃ v, (∀ h, HOk P w H h → Ext base h → sp vs h v) ∧ Q v H
theorem PF.ok {P : Program} {w : World} {K : PySem.W.Frag} {mg : Str → Option Value} {base : Heap} {k : Nat} {f : Addr} {fd : FuncData} {ps : List Str} {sp : List V → Heap → V → Prop} (G : PF P w K mg base k f fd ps sp) :
    FnOk P w K mg base CX0 k f fd ps (spPure P w base ps sp) := by
  refine ⟨fun vs H Q E h => h.1, fun A outer s H args us vs Q E hr e0 hb rv h => ?_⟩
  obtain ⟨hl, v, hv, hQ⟩ := h
  have hx : Ext base s.heap := fun b o e => (e0.bs b o e).1
  refine G.run A s args us vs v _ hr hx hb rv hl (hv _ e0.hok hx) fun u h' tk r hk => ?_
  exact ⟨v, H, rfl, e0.bare, Un.kept hk, e0.hok.kept hk, r, hQ⟩
end Pu
/-! shapes by numbers alone -/
namespace Sh
def counts (k m : Nat) : List Nat :=
  if h : k < m ∧ 2 ≤ k then (k - (m - k) % 2) :: counts k ((m - (k - (m - k) % 2)) / 2) else if 0 < m then [m] else []
termination_by m
decreasing_by omega
def tot : List Nat → Nat → Nat
  | [], _ => 0
  | c :: cs, s => tot cs (2 * s) + s * c
def sh (f : Nat) : List Nat → Nat → List (Nat × Nat)
  | [], _ => []
  | c :: cs, s => sh f cs (2 * s) ++ (List.range c).map fun j => (f + tot cs (2 * s) + s * j, s)
/-- the shape of rows f up to l -/
def shp (k f l : Nat) : List (Nat × Nat) := sh f (counts k (l - f)) 1
inductive Val (k : Nat) : List Nat → Prop
  | one {c : Nat} (h1 : 1 ≤ c) (h2 : c ≤ k) : Val k [c]
  | more {c d : Nat} {cs : List Nat} (h : c = k ∨ c + 1 = k) (r : Val k (d :: cs)) : Val k (c :: d :: cs)
theorem tot_scale : ∀ (cs : List Nat) (s : Nat), tot cs s = s * tot cs 1
  | [], s => rfl
  | c :: cs, s => by
    show tot cs (2 * s) + s * c = s * (tot cs (2 * 1) + 1 * c)
    rw [tot_scale cs (2 * s), tot_scale cs (2 * 1), Nat.mul_add, Nat.one_mul, ← Nat.mul_assoc, ← Nat.mul_assoc, Nat.mul_one, Nat.mul_comm 2 s]
theorem tot_cons (c : Nat) (cs : List Nat) : tot (c :: cs) 1 = 2 * tot cs 1 + c := by
  show tot cs (2 * 1) + 1 * c = _
  rw [tot_scale cs (2 * 1)]
  omega
theorem tot_pos {k : Nat} {cs : List Nat} (h : Val k cs) (_ : 2 ≤ k) : 0 < tot cs 1 := by
  induction h with
  | one h1 h2 => rw [tot_cons]; omega
  | more h r ih => rw [tot_cons]; omega
theorem counts_big {k m : Nat} (h : k < m) (hk : 2 ≤ k) : counts k m = (k - (m - k) % 2) :: counts k ((m - (k - (m - k) % 2)) / 2) := by
  rw [counts, dif_pos ⟨h, hk⟩]
theorem counts_small {k m : Nat} (h : ¬ k < m) : counts k m = if 0 < m then [m] else [] := by
  rw [counts, dif_neg fun z => h z.1]
theorem counts_zero (k : Nat) : counts k 0 = [] := by rw [counts_small (by omega)]; rfl
theorem counts_tot {k : Nat} (hk : 2 ≤ k) : ∀ m, tot (counts k m) 1 = m := by
  intro m
  induction m using Nat.strongRecOn with
  | ind m ih =>
    by_cases h : k < m
    · rw [counts_big h hk, tot_cons, ih _ (by omega)]
      omega
    · rw [counts_small h]
      by_cases h0 : 0 < m
      · rw [if_pos h0, tot_cons]
        show 2 * 0 + m = m
        omega
      · rw [if_neg h0]
        show 0 = m
        omega
theorem counts_val {k : Nat} (hk : 2 ≤ k) : ∀ m, 0 < m → Val k (counts k m) := by
  intro m
  induction m using Nat.strongRecOn with
  | ind m ih =>
    intro h0
    by_cases h : k < m
    · rw [counts_big h hk]
      have q := ih ((m - (k - (m - k) % 2)) / 2) (by omega) (by omega)
      generalize counts k ((m - (k - (m - k) % 2)) / 2) = cs at q
      cases q with
      | one a b => exact .more (by omega) (.one a b)
      | more a b => exact .more (by omega) (.more a b)
    · rw [counts_small h, if_pos h0]
      exact .one h0 (by omega)
theorem uniq {k : Nat} {cs : List Nat} (hk : 2 ≤ k) (h : Val k cs) : counts k (tot cs 1) = cs := by
  induction h with
  | @one c h1 h2 =>
    have e : tot [c] 1 = c := by rw [tot_cons]; show 2 * 0 + c = c; omega
    rw [e, counts_small (by omega), if_pos (show 0 < c from h1)]
  | @more c d cs h r ih =>
    have p := tot_pos r hk
    rw [tot_cons, counts_big (by omega) hk]
    have e1 : k - (2 * tot (d :: cs) 1 + c - k) % 2 = c := by omega
    rw [e1]
    have e2 : (2 * tot (d :: cs) 1 + c - c) / 2 = tot (d :: cs) 1 := by omega
    rw [e2, ih]
theorem val_ne {k : Nat} {cs : List Nat} (h : Val k cs) : cs ≠ [] := by
  cases h <;> simp
/-- the spans from some on are the shape from their first row on -/
theorem suffix {k : Nat} : ∀ (cs : List Nat) (s f j : Nat), Val k cs → ∃ cs' f', (cs' = [] ∨ Val k cs') ∧ (sh f cs s).drop j = sh f' cs' s ∧ f' + tot cs' s = f + tot cs s := by
  intro cs
  induction cs with
  | nil => intro s f j h; cases h
  | cons c cs ih =>
    intro s f j h
    -- within the block of the least size
    have blk : ∀ i, 1 ≤ c → (cs = [] ∨ Val k cs) → c ≤ k → ∃ cs' f', (cs' = [] ∨ Val k cs') ∧ ((List.range c).map fun j => (f + tot cs (2 * s) + s * j, s)).drop i = sh f' cs' s ∧ f' + tot cs' s = f + tot (c :: cs) s := by
      intro i h1 _ h2
      by_cases hi : i < c
      · refine ⟨[c - i], f + tot cs (2 * s) + s * i, .inr (.one (by omega) (by omega)), ?_, ?_⟩
        · show _ = [] ++ _
          rw [List.nil_append]
          apply List.ext_getElem
          · simp
          · intro n h1 h2
            simp only [List.getElem_drop, List.getElem_map, List.getElem_range]
            show (f + tot cs (2 * s) + s * (i + n), s) = (f + tot cs (2 * s) + s * i + 0 + s * n, s)
            rw [Nat.mul_add]
            simp only [Prod.mk.injEq, and_true]
            omega
        · show f + tot cs (2 * s) + s * i + (0 + s * (c - i)) = f + (tot cs (2 * s) + s * c)
          have : s * i + s * (c - i) = s * c := by rw [← Nat.mul_add]; congr 1; omega
          omega
      · refine ⟨[], f + tot (c :: cs) s, .inl rfl, ?_, rfl⟩
        rw [List.drop_of_length_le (by simp; omega)]
        rfl
    cases h with
    | one h1 h2 =>
      obtain ⟨cs', f', a, b, e⟩ := blk j h1 (.inl rfl) h2
      exact ⟨cs', f', a, by simpa [sh] using b, e⟩
    | @more _ d ds hc r =>
      by_cases hj : j ≤ (sh f (d :: ds) (2 * s)).length
      · by_cases hj2 : j < (sh f (d :: ds) (2 * s)).length
        · obtain ⟨cs', f', a, b, e⟩ := ih (2 * s) f j r
          have ne : cs' ≠ [] := fun z => by
            subst z
            have q : ((sh f (d :: ds) (2 * s)).drop j).length = 0 := by rw [b]; rfl
            rw [List.length_drop] at q
            omega
          have v : Val k cs' := a.resolve_left ne
          refine ⟨c :: cs', f', .inr ?_, ?_, ?_⟩
          · cases v with
            | one p q => exact .more hc (.one p q)
            | more p q => exact .more hc (.more p q)
          · show ((sh f (d :: ds) (2 * s)) ++ _).drop j = sh f' cs' (2 * s) ++ _
            rw [List.drop_append_of_le_length hj, b, e]
          · show f' + (tot cs' (2 * s) + s * c) = f + (tot (d :: ds) (2 * s) + s * c)
            omega
        · have hj3 : j = (sh f (d :: ds) (2 * s)).length := by omega
          by_cases c0 : c = 0
          · refine ⟨[], f + tot (c :: d :: ds) s, .inl rfl, ?_, rfl⟩
            rw [hj3, c0]
            simp [sh]
          · obtain ⟨cs', f', a, b, e⟩ := blk 0 (by omega) (.inr r) (by omega)
            refine ⟨cs', f', a, ?_, e⟩
            show ((sh f (d :: ds) (2 * s)) ++ _).drop j = _
            rw [hj3, List.drop_left]
            simpa using b
      · by_cases c0 : c = 0
        · refine ⟨[], f + tot (c :: d :: ds) s, .inl rfl, ?_, rfl⟩
          show ((sh f (d :: ds) (2 * s)) ++ _).drop j = _
          rw [List.drop_of_length_le (by rw [c0, List.length_append]; simp; omega)]
          rfl
        · obtain ⟨cs', f', a, b, e⟩ := blk (j - (sh f (d :: ds) (2 * s)).length) (by omega) (.inr r) (by omega)
          refine ⟨cs', f', a, ?_, e⟩
          show ((sh f (d :: ds) (2 * s)) ++ _).drop j = _
          rw [List.drop_append, List.drop_of_length_le (show (sh f (d :: ds) (2 * s)).length ≤ j by omega), List.nil_append]
          exact b

/-! ### within, in order -/
theorem sh_mem : ∀ (cs : List Nat) (s f : Nat) (p : Nat × Nat), p ∈ sh f cs s → f ≤ p.1 ∧ p.1 + p.2 ≤ f + tot cs s ∧ s ≤ p.2
  | [], _, _, _, h => by cases h
  | c :: cs, s, f, p, h => by
    rcases List.mem_append.mp h with h | h
    · obtain ⟨a, b, e⟩ := sh_mem cs (2 * s) f p h
      refine ⟨a, ?_, by omega⟩
      show p.1 + p.2 ≤ f + (tot cs (2 * s) + s * c)
      omega
    · obtain ⟨j, hj, rfl⟩ := List.mem_map.mp h
      have hj2 := List.mem_range.mp hj
      have q : s * (j + 1) ≤ s * c := Nat.mul_le_mul_left s hj2
      rw [Nat.mul_succ] at q
      refine ⟨?_, ?_, Nat.le_refl _⟩
      · show f ≤ f + tot cs (2 * s) + s * j
        omega
      · show f + tot cs (2 * s) + s * j + s ≤ f + (tot cs (2 * s) + s * c)
        omega
theorem sh_pair : ∀ (cs : List Nat) (s f : Nat), (sh f cs s).Pairwise fun a b => a.1 + a.2 ≤ b.1
  | [], _, _ => .nil
  | c :: cs, s, f => by
    refine List.pairwise_append.mpr ⟨sh_pair cs (2 * s) f, ?_, fun a ha b hb => ?_⟩
    · rw [List.pairwise_map]
      refine List.Pairwise.imp ?_ (List.pairwise_lt_range (n := c))
      intro i j h
      have q : s * (i + 1) ≤ s * j := Nat.mul_le_mul_left s h
      rw [Nat.mul_succ] at q
      show f + tot cs (2 * s) + s * i + s ≤ f + tot cs (2 * s) + s * j
      omega
    · have h1 := (sh_mem cs (2 * s) f a ha).2.1
      obtain ⟨j, _, rfl⟩ := List.mem_map.mp hb
      show a.1 + a.2 ≤ f + tot cs (2 * s) + s * j
      omega
/-- what does not lie below is what stands behind some spans -/
theorem filter_drop (b : Nat) : ∀ L : List (Nat × Nat), (L.Pairwise fun a b => a.1 + a.2 ≤ b.1) → ∃ j, L.filter (fun p => decide (b < p.1 + p.2)) = L.drop j
  | [], _ => ⟨0, rfl⟩
  | p :: L, h => by
    obtain ⟨h1, h2⟩ := List.pairwise_cons.mp h
    by_cases hp : b < p.1 + p.2
    · refine ⟨0, ?_⟩
      rw [List.drop_zero, List.filter_eq_self]
      intro q hq
      rcases List.mem_cons.mp hq with e | hq
      · rw [e]; exact decide_eq_true hp
      · have := h1 q hq
        exact decide_eq_true (by omega)
    · obtain ⟨j, hj⟩ := filter_drop b L h2
      refine ⟨j + 1, ?_⟩
      rw [List.filter_cons, if_neg (by simpa using hp), hj]
      rfl
/-- the first row of a shape -/
theorem sh_head {k : Nat} : ∀ {cs : List Nat} (_ : Val k cs) (_ : 2 ≤ k) (s f : Nat), ∃ m r, sh f cs s = (f, m) :: r
  | _, .one (c := c) h1 h2, _, s, f => by
    obtain ⟨d, rfl⟩ : ∃ d, c = d + 1 := ⟨c - 1, by omega⟩
    refine ⟨s, (List.range d).map fun j => (f + s * (j + 1), s), ?_⟩
    show [] ++ (List.range (d + 1)).map _ = _
    rw [List.nil_append, List.range_succ_eq_map, List.map_cons, List.map_map]
    rfl
  | _, .more (c := c) (d := d) (cs := cs) h r, hk, s, f => by
    obtain ⟨m, q, e⟩ := sh_head r hk (2 * s) f
    refine ⟨m, q ++ (List.range c).map fun j => (f + tot (d :: cs) (2 * s) + s * j, s), ?_⟩
    show sh f (d :: cs) (2 * s) ++ _ = _
    rw [e]
    rfl
def firstOf (L : List (Nat × Nat)) (l : Nat) : Nat := match L with
  | [] => l
  | p :: _ => p.1
theorem firstOf_sh {k f l : Nat} (hk : 2 ≤ k) (h : f ≤ l) : firstOf (shp k f l) l = f := by
  unfold shp
  by_cases e : l - f = 0
  · rw [e, counts_zero]
    show l = f
    omega
  · obtain ⟨m, r, q⟩ := sh_head (counts_val hk (l - f) (by omega)) hk 1 f
    rw [q]
    rfl
def gone (b : Nat) (L : List (Nat × Nat)) : List (Nat × Nat) := L.filter fun p => decide (b < p.1 + p.2)
/-- letting go leaves the shape of the row that is then the first -/
theorem gone_shp {k f l b : Nat} (hk : 2 ≤ k) (h : f ≤ l) : firstOf (gone b (shp k f l)) l ≤ l ∧ gone b (shp k f l) = shp k (firstOf (gone b (shp k f l)) l) l := by
  by_cases e : l - f = 0
  · have e2 : shp k f l = [] := by
      unfold shp
      rw [e, counts_zero]
      rfl
    rw [e2]
    refine ⟨Nat.le_refl _, ?_⟩
    show [] = shp k l l
    unfold shp
    rw [Nat.sub_self, counts_zero]
    rfl
  · have v := counts_val hk (l - f) (by omega)
    have t := counts_tot hk (l - f)
    obtain ⟨j, hj⟩ := filter_drop b (shp k f l) (sh_pair _ _ _)
    obtain ⟨cs', f', a, q, e2⟩ := suffix _ 1 f j v
    have g : gone b (shp k f l) = sh f' cs' 1 := hj.trans q
    rw [g]
    rw [t] at e2
    rcases a with a | a
    · subst a
      have e3 : f' = l := by
        have : f' + 0 = f + (l - f) := e2
        omega
      refine ⟨Nat.le_refl _, ?_⟩
      show [] = shp k l l
      unfold shp
      rw [Nat.sub_self, counts_zero]
      rfl
    · obtain ⟨m, r, q2⟩ := sh_head a hk 1 f'
      have e3 : firstOf (sh f' cs' 1) l = f' := by rw [q2]; rfl
      have e4 : l - f' = tot cs' 1 := by omega
      have p := tot_pos a hk
      rw [e3]
      refine ⟨by omega, ?_⟩
      unfold shp
      rw [e4, uniq hk a]
/-- how many of each size -/
theorem sizes_sh : ∀ (cs : List Nat) (s f : Nat), (sh f cs s).map (·.2) = (sh 0 cs s).map (·.2)
  | [], _, _ => rfl
  | c :: cs, s, f => by
    show (sh f cs (2 * s) ++ _).map _ = (sh 0 cs (2 * s) ++ _).map _
    rw [List.map_append, List.map_append, sizes_sh cs (2 * s) f, List.map_map, List.map_map]
    rfl
theorem size_in : ∀ (cs : List Nat) (s f : Nat) (p : Nat × Nat), p ∈ sh f cs s → ∃ i, i < cs.length ∧ p.2 = s * 2 ^ i
  | [], _, _, _, h => by cases h
  | c :: cs, s, f, p, h => by
    rcases List.mem_append.mp h with h | h
    · obtain ⟨i, hi, e⟩ := size_in cs (2 * s) f p h
      exact ⟨i + 1, by simpa using hi, by rw [e, Nat.pow_succ, Nat.mul_comm 2 s, Nat.mul_assoc, Nat.mul_comm 2]⟩
    · obtain ⟨j, _, rfl⟩ := List.mem_map.mp h
      exact ⟨0, by simp, by simp⟩
theorem count_sh : ∀ (cs : List Nat) (s f i : Nat), 0 < s → i < cs.length → ((sh f cs s).filter fun p => decide (p.2 = s * 2 ^ i)).length = cs.getD i 0
  | [], _, _, _, _, h => by simp at h
  | c :: cs, s, f, 0, hs, _ => by
    show ((sh f cs (2 * s) ++ (List.range c).map _).filter _).length = c
    rw [List.filter_append, List.length_append]
    have e1 : (sh f cs (2 * s)).filter (fun p => decide (p.2 = s * 2 ^ 0)) = [] := by
      rw [List.filter_eq_nil_iff]
      intro p hp
      have := (sh_mem cs (2 * s) f p hp).2.2
      simp
      omega
    have e2 : ((List.range c).map fun j => (f + tot cs (2 * s) + s * j, s)).filter (fun p => decide (p.2 = s * 2 ^ 0)) = (List.range c).map fun j => (f + tot cs (2 * s) + s * j, s) := by
      rw [List.filter_eq_self]
      intro p hp
      obtain ⟨j, _, rfl⟩ := List.mem_map.mp hp
      simp
    rw [e1, e2, List.length_map, List.length_range]
    simp
  | c :: cs, s, f, i + 1, hs, h => by
    show ((sh f cs (2 * s) ++ (List.range c).map _).filter _).length = cs.getD i 0
    rw [List.filter_append, List.length_append]
    have e2 : ((List.range c).map fun j => (f + tot cs (2 * s) + s * j, s)).filter (fun p => decide (p.2 = s * 2 ^ (i + 1))) = [] := by
      rw [List.filter_eq_nil_iff]
      intro p hp
      obtain ⟨j, _, rfl⟩ := List.mem_map.mp hp
      have : 1 < 2 ^ (i + 1) := Nat.one_lt_two_pow (by omega)
      have q : s * 1 < s * 2 ^ (i + 1) := Nat.mul_lt_mul_of_pos_left this hs
      simp
      omega
    have e3 : s * 2 ^ (i + 1) = 2 * s * 2 ^ i := by rw [Nat.pow_succ, Nat.mul_comm 2 s, Nat.mul_assoc, Nat.mul_comm 2]
    rw [e2, e3, count_sh cs (2 * s) f i (by omega) (by simpa using h)]
    rfl
theorem val_pos {k : Nat} {cs : List Nat} (h : Val k cs) (hk : 2 ≤ k) : ∀ i, i < cs.length → 1 ≤ cs.getD i 0 := by
  induction h with
  | one h1 h2 =>
    intro i hi
    have : i = 0 := by simpa using hi
    subst this
    exact h1
  | more h r ih =>
    intro i hi
    cases i with
    | zero => show 1 ≤ _; simp; omega
    | succ i => exact ih i (by simpa using hi)
theorem val_le {k : Nat} {cs : List Nat} (h : Val k cs) : ∀ i, cs.getD i 0 ≤ k := by
  induction h with
  | one h1 h2 =>
    intro i
    cases i with
    | zero => exact h2
    | succ i => simp
  | more h r ih =>
    intro i
    cases i with
    | zero => show _ ≤ _; simp; omega
    | succ i => exact ih i
theorem counts_le {k : Nat} (hk : 2 ≤ k) (m i : Nat) : (counts k m).getD i 0 ≤ k := by
  by_cases h : 0 < m
  · exact val_le (counts_val hk m h) i
  · have : m = 0 := by omega
    rw [this, counts_zero]
    simp
theorem tot_drop : ∀ (cs : List Nat) (i : Nat), tot (cs.drop i) (2 ^ i) ≤ tot cs 1
  | cs, 0 => Nat.le_refl _
  | [], i + 1 => by simp [tot]
  | c :: cs, i + 1 => by
    have h := tot_drop cs i
    rw [tot_cons]
    show tot (cs.drop i) (2 ^ (i + 1)) ≤ _
    rw [tot_scale] at h ⊢
    rw [Nat.pow_succ, Nat.mul_comm (2 ^ i) 2, Nat.mul_assoc]
    omega
theorem counts_len (k : Nat) (hk : 2 ≤ k) : ∀ m, (counts k m).length ≤ m := by
  intro m
  induction m using Nat.strongRecOn with
  | ind m ih =>
    by_cases h : k < m
    · rw [counts_big h hk, List.length_cons]
      have := ih ((m - (k - (m - k) % 2)) / 2) (by omega)
      omega
    · rw [counts_small h]
      by_cases h0 : 0 < m
      · rw [if_pos h0]; exact h0
      · rw [if_neg h0]; exact Nat.zero_le _
theorem sh_len : ∀ (cs : List Nat) (s f : Nat), 0 < s → (sh f cs s).length ≤ tot cs s
  | [], _, _, _ => Nat.le_refl _
  | c :: cs, s, f, hs => by
    have h := sh_len cs (2 * s) f (by omega)
    show (sh f cs (2 * s) ++ (List.range c).map _).length ≤ tot cs (2 * s) + s * c
    rw [List.length_append, List.length_map, List.length_range]
    have : 1 * c ≤ s * c := Nat.mul_le_mul_right c hs
    omega
theorem shp_len {k f l : Nat} (hk : 2 ≤ k) : (shp k f l).length ≤ l - f := by
  have h := sh_len (counts k (l - f)) 1 f (by omega)
  rw [counts_tot hk] at h
  exact h
theorem shp_mem {k f l : Nat} (hk : 2 ≤ k) (h : f ≤ l) {p : Nat × Nat} (hp : p ∈ shp k f l) : f ≤ p.1 ∧ p.1 + p.2 ≤ l ∧ 1 ≤ p.2 := by
  obtain ⟨a, b, c⟩ := sh_mem _ _ _ _ hp
  rw [counts_tot hk] at b
  exact ⟨a, by omega, c⟩
end Sh
set_option Elab.async false
set_option linter.all false
set_option maxRecDepth 100000
set_option maxHeartbeats 4000000
namespace Pu
open PySem PySem.Spec PyProof.Rows L2 GxR Evl
/-- a comprehension: acc by the turn and the heap -/
theorem lc_gen {J : It} {n : Nat} {G : Hp → Prop} {Y : Nat → Hp → V → Hp → Prop} (w : Walk J n G Y) {g : TG} {tt : TT} {te : TE} {vs : List Nat} {σ : L2.St} {H1 : Hp} {D : Addr} {Qd : Hp → Prop} (R : Nat → Hp → List V → Prop) (hn : n ≤ 40000) (hD : H1 D = none)
    (hU : ∀ i H xs ys acc, H D = some (.lst xs) → R i H acc → R i (upd H D (.lst ys)) acc) (h0 : R 0 (upd H1 D (.lst [])) []) (hG : ∀ H, Ex H1 H → G H)
    (turn : ∀ i x H H' acc, i < n → Ex H1 H → Y i H x H' → R i H acc → ∀ (Qy : V → Hp → Prop) (Qn : Hp → Prop), (∀ y H4, Ex H H4 → R (i + 1) H4 (acc ++ [y]) → Qy y H4) → (∀ H3, Ex H H3 → R (i + 1) H3 acc → Qn H3) →
      g x (wipe σ vs) H' fun σ2 H2 => wipe σ2 vs = wipe σ vs ∧ tt σ2 H2 fun b H3 => if b = true then te σ2 H3 Qy else Qn H3)
    (hd : ∀ H acc, Ex H1 H → H D = some (.lst acc) → R n H acc → Qd H) :
    ∃ W : Nat → Nat → Hp → Prop, (∃ m, W 0 m (upd H1 D (.lst []))) ∧ ∀ i m H, W i m H →
      (J.stop i H ∧ Qd H) ∨ (J.go i H ∧ ∃ Nx : Hp → Prop, (∀ H', Nx H' → ∃ m', m' < m ∧ W (i + 1) m' H') ∧ ∀ x H', J.yld i H x H' → g x (wipe σ vs) H' fun σ2 H2 => wipe σ2 vs = wipe σ vs ∧ tt σ2 H2 fun b H3 =>
        if b = true then te σ2 H3 fun y H4 => ∃ acc, H4 D = some (.lst acc) ∧ acc.length < sizeLine ∧ Nx (upd H4 D (.lst (acc ++ [y]))) else Nx H3) := by
  refine lc_it w (fun i H => Ex H1 H ∧ ∃ acc, H D = some (.lst acc) ∧ acc.length ≤ i ∧ R i H acc) ⟨Ex.new hD, [], upd_same, Nat.le_refl _, h0⟩ (fun i H _ p => hG H p.1) (fun i x H H' hi p y => ?_) fun H p => ?_
  · obtain ⟨ex, acc, hH, hl, hR⟩ := p
    refine turn i x H H' acc hi ex y hR _ _ (fun v H4 e4 r4 => ?_) fun H3 e3 r3 => ⟨ex.trans e3, acc, e3 D _ hH, Nat.le_succ_of_le hl, r3⟩
    have hz : acc.length < sizeLine := Nat.lt_of_le_of_lt (show acc.length ≤ 40000 by omega) (by decide)
    refine ⟨acc, e4 D _ hH, hz, Ex.mut (ex.trans e4) hD, acc ++ [v], upd_same, ?_, hU _ _ _ _ _ (e4 D _ hH) r4⟩
    rw [List.length_append, List.length_singleton]
    omega
  · obtain ⟨ex, acc, hH, _, hR⟩ := p
    exact hd H acc ex hH hR
theorem yes_then {te : TE} {σ : L2.St} {H : Hp} {Qy : VK} {Qn : Hp → Prop} (h : te σ H Qy) : tYes σ H fun b H3 => if b = true then te σ H3 Qy else Qn H3 := by
  show (if true = true then te σ H Qy else Qn H)
  rw [if_pos rfl]
  exact h
/-- pairs of numbers, each a tuple -/
def PrT (H : Hp) (L : List (Nat × Nat)) (xs : List V) : Prop := Paired (fun (p : Nat × Nat) (v : V) => ∃ b, v = .ref b ∧ H b = some (.tup [.int (p.1 : Nat), .int (p.2 : Nat)])) L xs
theorem PrT.ex {H H' : Hp} {L : List (Nat × Nat)} {xs : List V} (h : PrT H L xs) (e : Ex H H') : PrT H' L xs := Paired.mapP h fun p v ⟨b, h1, h2⟩ => ⟨b, h1, e _ _ h2⟩
theorem PrT.upd {H : Hp} {L : List (Nat × Nat)} {xs ys : List V} {D : Addr} {o : HO} (h : PrT H L xs) (hD : H D = some (.lst ys)) : PrT (upd H D o) L xs := Paired.mapP h fun p v ⟨b, h1, h2⟩ =>
  ⟨b, h1, by rw [upd_ne (ne_of h2 hD (by intro z; cases z))]; exact h2⟩
theorem Paired.app {α β : Type} {F : α → β → Prop} : ∀ {l : List α} {m : List β} {l' : List α} {m' : List β}, Paired F l m → Paired F l' m' → Paired F (l ++ l') (m ++ m')
  | _, _, _, _, .nil, s => s
  | _, _, _, _, .cons r t, s => .cons r (Paired.app t s)
theorem PrT.snoc {H : Hp} {L : List (Nat × Nat)} {xs : List V} {p : Nat × Nat} {b : Addr} (h : PrT H L xs) (e : H b = some (.tup [.int (p.1 : Nat), .int (p.2 : Nat)])) : PrT H (L ++ [p]) (xs ++ [.ref b]) := Paired.app h (.cons ⟨b, rfl, e⟩ .nil)
theorem Paired.at {α β : Type} {F : α → β → Prop} : ∀ {l : List α} {m : List β} {i : Nat} {y : β}, Paired F l m → m[i]? = some y → ∃ x, l[i]? = some x ∧ F x y
  | _, _, _, _, .nil, e => by simp at e
  | _, _, 0, _, .cons r _, e => by simp at e; subst e; exact ⟨_, rfl, r⟩
  | _, _, i + 1, y, .cons _ t, e => by
    obtain ⟨x, h1, h2⟩ := Paired.at (i := i) (y := y) t (by simpa using e)
    exact ⟨x, by simpa using h1, h2⟩
theorem PrT.len {H : Hp} {L : List (Nat × Nat)} {xs : List V} (h : PrT H L xs) : L.length = xs.length := Paired.length h
/-- the call of a def that hands back a new tuple -/
theorem eu_call {pre : List V → Hp → List V → Prop} {K : PySem.W.Frag} {σ : L2.St} {H : Hp} {ta : TA} {vs xs : List V} {E : XK} (h : EvA ta σ H vs) (hp : ∀ H1, Ex H H1 → pre (vs ++ []) H1 xs) :
    EvU (tCall (fun vs H Q _ => ∃ xs, pre vs H xs ∧ ∀ p H', H p = none → Ex H H' → H' p = some (.tup xs) → Q (.ref p) H') [] E ta) σ H xs := fun H1 e Q q =>
  h H1 e _ fun H2 e2 => ⟨xs, hp H2 (e.trans e2), fun p H3 hn e3 h3 => q p H3 (fresh_back e2 hn) (e2.trans e3) h3⟩
end Pu
namespace Pu
open PySem PySem.Spec PyProof.Rows L2 GxR Evl
/-- a tuple or a list -/
def SqE (K : PySem.W.Frag) (H : Hp) (a : Addr) (xs : List V) : Prop := SqT K H a xs ∨ SqL K H a xs
theorem SqE.ex {K : PySem.W.Frag} {H H' : Hp} {a : Addr} {xs : List V} (q : SqE K H a xs) (e : Ex H H') : SqE K H' a xs := q.elim (fun q => .inl (ex_t e q)) fun q => .inr (ex_l e q)
/-- pairs of numbers, each a tuple or a list -/
def PrIn (K : PySem.W.Frag) (H : Hp) (L : List (Nat × Nat)) (xs : List V) : Prop := Paired (fun (p : Nat × Nat) (v : V) => ∃ b, v = .ref b ∧ SqE K H b [.int (p.1 : Nat), .int (p.2 : Nat)]) L xs
theorem PrIn.ex {K : PySem.W.Frag} {H H' : Hp} {L : List (Nat × Nat)} {xs : List V} (h : PrIn K H L xs) (e : Ex H H') : PrIn K H' L xs := Paired.mapP h fun p v ⟨b, h1, h2⟩ => ⟨b, h1, h2.ex e⟩
theorem PrT.in {K : PySem.W.Frag} {H : Hp} {L : List (Nat × Nat)} {xs : List V} (h : PrT H L xs) : PrIn K H L xs := Paired.mapP h fun p v ⟨b, h1, h2⟩ => ⟨b, h1, .inl (SqT.of h2)⟩
def ShIn (K : PySem.W.Frag) (H : Hp) (L : List (Nat × Nat)) (v : V) : Prop := ∃ a xs, v = .ref a ∧ SqE K H a xs ∧ PrIn K H L xs
theorem ShIn.ex {K : PySem.W.Frag} {H H' : Hp} {L : List (Nat × Nat)} {v : V} (h : ShIn K H L v) (e : Ex H H') : ShIn K H' L v := by
  obtain ⟨a, xs, h1, h2, h3⟩ := h
  exact ⟨a, xs, h1, h2.ex e, h3.ex e⟩
theorem ShIn.of {K : PySem.W.Frag} {H : Hp} {L : List (Nat × Nat)} {p : Addr} {xs : List V} (h : H p = some (.tup xs)) (q : PrT H L xs) : ShIn K H L (.ref p) := ⟨p, xs, rfl, .inl (SqT.of h), q.in⟩
theorem test_then {tt : TT} {te : TE} {σ : L2.St} {H : Hp} {b : Bool} {Qy : VK} {Qn : Hp → Prop} (ht : EvT tt σ H b) (h1 : b = true → ∀ H1, Ex H H1 → te σ H1 Qy) (h2 : b = false → ∀ H1, Ex H H1 → Qn H1) :
    tt σ H fun b H3 => if b = true then te σ H3 Qy else Qn H3 := ht H (Ex.refl H) _ fun H1 e => by
  cases b with
  | true =>
    rw [if_pos rfl]
    exact h1 rfl H1 e
  | false =>
    rw [if_neg Bool.false_ne_true]
    exact h2 rfl H1 e
end Pu
namespace Pu
open PySem PySem.Spec PyProof.Rows L2 GxR Evl
/-- all kept but the table at T, which may have grown -/
def ExT (T : Addr) (H H' : Hp) : Prop := TabG H' T ∧ ∀ b o, b ≠ T → H b = some o → H' b = some o
theorem ExT.of_tab {T : Addr} {H H' : Hp} (t : Tabbed T H H') : ExT T H H' := ⟨t.1, fun b o hb e => by rw [t.2 b hb]; exact e⟩
theorem TabG.ex {T : Addr} {H H' : Hp} (t : TabG H T) (e : Ex H H') : TabG H' T := by
  obtain ⟨ps, h, r⟩ := t
  exact ⟨ps, e _ _ h, r⟩
theorem ExT.ex {T : Addr} {H H1 H2 : Hp} (a : ExT T H H1) (e : Ex H1 H2) : ExT T H H2 := ⟨TabG.ex a.1 e, fun b o hb h => e _ _ (a.2 b o hb h)⟩
theorem ExT.ex' {T : Addr} {H H1 H2 : Hp} (e : Ex H H1) (a : ExT T H1 H2) : ExT T H H2 := ⟨a.1, fun b o hb h => a.2 b o hb (e _ _ h)⟩
theorem ExT.refl {T : Addr} {H : Hp} (t : TabG H T) : ExT T H H := ⟨t, fun _ _ _ h => h⟩
theorem ExT.trans {T : Addr} {H H1 H2 : Hp} (a : ExT T H H1) (b : ExT T H1 H2) : ExT T H H2 := ⟨b.1, fun c o hc h => b.2 c o hc (a.2 c o hc h)⟩
theorem ExT.fresh {T : Addr} {H H' : Hp} {p : Addr} (t : TabG H T) (a : ExT T H H') (h : H' p = none) : H p = none := by
  cases e : H p with
  | none => rfl
  | some o =>
    by_cases z : p = T
    · obtain ⟨ps, q, _⟩ := a.1
      rw [z, q] at h
      cases h
    · rw [a.2 p o z e] at h
      cases h
theorem TabG.ne {T a : Addr} {H : Hp} {o : HO} (t : TabG H T) (h : H a = some o) (n : ∀ ps, o ≠ .tbl ps) : a ≠ T := fun z => by
  obtain ⟨ps, q, _⟩ := t
  rw [z, q] at h
  exact n ps (Option.some.inj h).symm
theorem rd_exT {T a : Addr} {H H' : Hp} {u : HO} (t : TabG H T) (e : ExT T H H') (n : ∀ ps, u ≠ .tbl ps) (h : Rd H a u) : Rd H' a u := by
  rcases h with h | ⟨o, h⟩
  · exact .inl (e.2 _ _ (TabG.ne t h n) h)
  · exact .inr ⟨o, e.2 _ _ (TabG.ne t h fun ps z => by cases z) h⟩
theorem SqT.exT {K : PySem.W.Frag} {T a : Addr} {H H' : Hp} {xs : List V} (t : TabG H T) (e : ExT T H H') (q : SqT K H a xs) : SqT K H' a xs := q.imp (rd_exT t e fun ps z => by cases z) id
theorem SqL.exT {K : PySem.W.Frag} {T a : Addr} {H H' : Hp} {xs : List V} (t : TabG H T) (e : ExT T H H') (q : SqL K H a xs) : SqL K H' a xs := q.imp (rd_exT t e fun ps z => by cases z) id
theorem SqE.exT {K : PySem.W.Frag} {T a : Addr} {H H' : Hp} {xs : List V} (t : TabG H T) (e : ExT T H H') (q : SqE K H a xs) : SqE K H' a xs := q.imp (SqT.exT t e) (SqL.exT t e)
theorem PrIn.exT {K : PySem.W.Frag} {T : Addr} {H H' : Hp} {L : List (Nat × Nat)} {xs : List V} (t : TabG H T) (e : ExT T H H') (h : PrIn K H L xs) : PrIn K H' L xs := Paired.mapP h fun p v ⟨b, h1, h2⟩ => ⟨b, h1, h2.exT t e⟩
theorem PrT.exT {T : Addr} {H H' : Hp} {L : List (Nat × Nat)} {xs : List V} (t : TabG H T) (e : ExT T H H') (h : PrT H L xs) : PrT H' L xs := Paired.mapP h fun p v ⟨b, h1, h2⟩ => ⟨b, h1, e.2 _ _ (TabG.ne t h2 fun ps z => by cases z) h2⟩
theorem ShIn.exT {K : PySem.W.Frag} {T : Addr} {H H' : Hp} {L : List (Nat × Nat)} {v : V} (t : TabG H T) (e : ExT T H H') (h : ShIn K H L v) : ShIn K H' L v := by
  obtain ⟨a, xs, h1, h2, h3⟩ := h
  exact ⟨a, xs, h1, h2.exT t e, h3.exT t e⟩
/-- pairs of numbers, each a tuple that is read -/
def PrS (K : PySem.W.Frag) (H : Hp) (L : List (Nat × Nat)) (xs : List V) : Prop := Paired (fun (p : Nat × Nat) (v : V) => ∃ b, v = .ref b ∧ SqT K H b [.int (p.1 : Nat), .int (p.2 : Nat)]) L xs
theorem PrS.ex {K : PySem.W.Frag} {H H' : Hp} {L : List (Nat × Nat)} {xs : List V} (h : PrS K H L xs) (e : Ex H H') : PrS K H' L xs := Paired.mapP h fun p v ⟨b, h1, h2⟩ => ⟨b, h1, ex_t e h2⟩
theorem SqT.upd {K : PySem.W.Frag} {H : Hp} {b D : Addr} {xs ys : List V} {o : HO} (h : SqT K H b xs) (hD : H D = some (.lst ys)) : SqT K (upd H D o) b xs := by
  rcases h with (h | ⟨u, h⟩) | h
  · exact .inl (.inl (by rw [upd_ne (ne_of h hD (by intro z; cases z))]; exact h))
  · exact .inl (.inr ⟨u, by rw [upd_ne (ne_of h hD (by intro z; cases z))]; exact h⟩)
  · exact .inr h
theorem PrS.upd {K : PySem.W.Frag} {H : Hp} {L : List (Nat × Nat)} {xs ys : List V} {D : Addr} {o : HO} (h : PrS K H L xs) (hD : H D = some (.lst ys)) : PrS K (upd H D o) L xs := Paired.mapP h fun p v ⟨b, h1, h2⟩ => ⟨b, h1, SqT.upd h2 hD⟩
theorem PrS.in {K : PySem.W.Frag} {H : Hp} {L : List (Nat × Nat)} {xs : List V} (h : PrS K H L xs) : PrIn K H L xs := Paired.mapP h fun p v ⟨b, h1, h2⟩ => ⟨b, h1, .inl h2⟩
theorem PrT.s {K : PySem.W.Frag} {H : Hp} {L : List (Nat × Nat)} {xs : List V} (h : PrT H L xs) : PrS K H L xs := Paired.mapP h fun p v ⟨b, h1, h2⟩ => ⟨b, h1, SqT.of h2⟩
/-- pairs as data -/
def dPair (p : Nat × Nat) : PyData := .tuple [.int (p.1 : Nat), .int (p.2 : Nat)]
def dShape (L : List (Nat × Nat)) : PyData := .tuple (L.map dPair)
theorem dpPairs {K : PySem.W.Frag} {H : Hp} : ∀ {L : List (Nat × Nat)} {xs : List V}, PrS K H L xs → DpAll K H xs (L.map dPair)
  | _, _, .nil => .nil
  | _, _, .cons ⟨b, e, h⟩ t => by
    subst e
    exact .cons (.tup h (.cons (.int _) (.cons (.int _) .nil))) (dpPairs t)
theorem dpShape {K : PySem.W.Frag} {H : Hp} {a : Addr} {L : List (Nat × Nat)} {xs : List V} (h : SqT K H a xs) (q : PrS K H L xs) : Dp K H (.ref a) (dShape L) := .tup h (dpPairs q)
theorem pairs_lay : ∀ L : List (Nat × Nat), PyData.canLayAll0 (L.map dPair) = true
  | [] => rfl
  | p :: L => by
    show ((PyData.canLay0 (.int (p.1 : Nat)) && (PyData.canLay0 (.int (p.2 : Nat)) && PyData.canLayAll0 [])) && PyData.canLayAll0 (L.map dPair)) = true
    rw [pairs_lay L]
    rfl
theorem pairs_depth : ∀ L : List (Nat × Nat), PyData.depthAll (L.map dPair) ≤ 1
  | [] => Nat.zero_le _
  | p :: L => by
    show max (PyData.depth (dPair p)) (PyData.depthAll (L.map dPair)) ≤ 1
    exact Nat.max_le.mpr ⟨Nat.le_refl 1, pairs_depth L⟩
theorem shape_shaped (L : List (Nat × Nat)) : SeqAt.shaped (dShape L) = true := by
  have h1 : PyData.canLay0 (dShape L) = true := pairs_lay L
  have h2 : PyData.depth (dShape L) ≤ 64 := by
    show PyData.depthAll (L.map dPair) + 1 ≤ 64
    have := pairs_depth L
    omega
  unfold SeqAt.shaped
  rw [h1, decide_eq_true h2]
  rfl
theorem pairs_eqv : ∀ L : List (Nat × Nat), PyData.eqvAll (L.map dPair) (L.map dPair) = true
  | [] => rfl
  | p :: L => by
    show (PyData.eqv (dPair p) (dPair p) && PyData.eqvAll (L.map dPair) (L.map dPair)) = true
    rw [pairs_eqv L]
    simp [dPair, PyData.eqv, PyData.eqvAll]
theorem shape_eqv (L : List (Nat × Nat)) : PyData.eqv (dShape L) (dShape L) = true := by
  show PyData.eqv (.tuple _) (.tuple _) = true
  rw [PyData.eqv]
  exact pairs_eqv L
/-- tuple(x) -/
def rTupleOf (K : PySem.W.Frag) (xs : List V) (H : Hp) (Q : VK) : Prop := ∃ p ys, xs = [.ref p] ∧ ((SqL K H p ys ∧ ∀ l, H l = none → Q (.ref l) (upd H l (.tup ys))) ∨ (SqT K H p ys ∧ Q (.ref p) H))
/-- a tracked tuple or list at a heap that keeps all but the table -/
theorem seq_at {P : Program} {w : World} {K : PySem.W.Frag} {H1 : Hp} {g : Heap} {T b : Addr} {xs : List V} (t : TabG H1 T) (ok : ∀ c ho, c ≠ T → H1 c = some ho → ObjOk P w H1 g c ho) (kin : K.In g) (q : SqE K H1 b xs) : ∃ (bb : Bool) (its : List Value), Vals xs its ∧ SeqG g bb b its := by
  have rd : ∀ {u : HO}, Rd H1 b u → (∀ ps, u ≠ .tbl ps) → ObjOk P w H1 g b u := fun {u} h n => by
    rcases h with h | ⟨o, h⟩
    · exact ok b _ (TabG.ne t h n) h
    · exact (ok b _ (TabG.ne t h fun ps z => by cases z) h).2
  rcases q with (q | ⟨o, its, n, hk, hc, hs, hz, r⟩) | (q | ⟨o, its, n, hk, hc, hd, hs, hz, r⟩)
  · obtain ⟨z, its, r, p⟩ := rd q fun ps z => by cases z
    exact ⟨true, its, r, by rw [← r.length]; exact z, p⟩
  · exact ⟨true, its.toList, r, by simpa using hz, o, kin b o hk, hc, n, by simpa using hs⟩
  · obtain ⟨z, its, n, r, e⟩ := rd q fun ps z => by cases z
    exact ⟨false, its, r, by rw [← r.length]; exact z, _, n, e, rfl, rfl, rfl⟩
  · exact ⟨false, its.toList, r, by simpa using hz, o, n, kin b o hk, hc, hd, by simpa using hs⟩
theorem GenS.of {env : Env} {sc : Scope} {x : Str} (h1 : sc.kind = .function) (h2 : sc.isCoroutine = false) (h3 : ∀ y ∈ sc.names, y.2 ≠ .cell) (h4 : sc.names.lookup (".0" : Str) = some NameKind.local) (h5 : sc.names.lookup x = some .local) (h6 : ∀ y ∈ sc.names, y.2 ≠ .free) :
    GenS env sc x := ⟨h1, h2, h3, h4, h5, fun y hy e => absurd e (h6 y hy)⟩
theorem PrS.snoc {K : PySem.W.Frag} {H : Hp} {L : List (Nat × Nat)} {xs : List V} {p : Nat × Nat} {b : Addr} (h : PrS K H L xs) (e : SqT K H b [.int (p.1 : Nat), .int (p.2 : Nat)]) : PrS K H (L ++ [p]) (xs ++ [.ref b]) := Paired.app h (.cons ⟨b, rfl, e⟩ .nil)
theorem q_ifOrF {t u : TT} {tu tw tz : TS} {D : Ends} {σ : L2.St} {H : Hp} (h1 : EvT t σ H false) (h2 : ∀ H1, Ex H H1 → u σ H1 fun b H2 => if b = true then tu { D with nx := tz D } σ H2 else tw { D with nx := tz D } σ H2) :
    tSeq (tIfS (tOr t u) tu tw) tz D σ H := h1 H (Ex.refl H) _ fun H1 e => by
  rw [if_neg (by decide)]
  exact h2 H1 e
end Pu
namespace Pu
open PySem PySem.Spec PyProof.Rows L2 GxR Evl
theorem rc_abs {i : Int} {H : Hp} : RC (fun xs H Q => ∃ i, xs = [V.int i] ∧ Q (.int (if i < 0 then -i else i)) H) [.int i] H (.int (if i < 0 then -i else i)) := fun H1 _ Q q => ⟨i, rfl, q H1 (Ex.refl H1)⟩
theorem rc_int {i : Int} {H : Hp} : RC (fun xs H Q => (∃ i, xs = [V.int i] ∧ Q (.int i) H) ∨ ∃ k, xs = [.bl k] ∧ Q (.int (if k then 1 else 0)) H) [.int i] H (.int i) := fun H1 _ Q q => .inl ⟨i, rfl, q H1 (Ex.refl H1)⟩
theorem rc_lenL {K : PySem.W.Frag} {H : Hp} {a : Addr} {xs : List V} (h : SqL K H a xs) : RC (fun ys H Q => ∃ x n, ys = [x] ∧ LenV K x H n ∧ Q (.int n) H) [.ref a] H (.int (xs.length : Int)) := fun H1 e Q q => ⟨_, _, rfl, .inl ⟨xs, ex_l e h, rfl⟩, q H1 (Ex.refl H1)⟩
def BoxAt (H : Hp) (p : Addr) : Prop := ∃ g s : Int, H p = some (.lst [.int g, .int s]) ∧ 0 ≤ g ∧ 0 ≤ s
theorem BoxAt.ex {H H' : Hp} {p : Addr} (h : BoxAt H p) (e : Ex H H') : BoxAt H' p := by
  obtain ⟨g, s, h1, h2⟩ := h
  exact ⟨g, s, e _ _ h1, h2⟩
def ExB (p : Addr) (H H' : Hp) : Prop := BoxAt H' p ∧ ∀ b o, b ≠ p → H b = some o → H' b = some o
def spBox (K : PySem.W.Frag) (ns : List Int) : Sp := fun vs H Q _ => ∃ (a : Addr) (k : Nat), vs = [.ref a, .int k] ∧ SqL K H a (ns.map V.int) ∧ ns.length ≤ 100 ∧ k ≤ 1000 ∧ ∀ p H', H p = none → Ex H H' → BoxAt H' p → Q (.ref p) H'
def spTake : Sp := fun vs H Q _ => ∃ (p : Addr) (m : Nat), vs = [.ref p, .int m] ∧ 1 ≤ m ∧ m ≤ 100000 ∧ BoxAt H p ∧ ∀ (d : Nat) H', d < m → ExB p H H' → Q (.int d) H'
def spPick : Sp := fun vs H Q _ => ∃ (p q : Addr) (ys : List V), vs = [.ref p, .ref q] ∧ BoxAt H p ∧ H q = some (.lst ys) ∧ q ≠ p ∧ 1 ≤ ys.length ∧ ys.length ≤ 1000 ∧ ∀ v H', v ∈ ys → ExB p H H' → Q v H'
theorem ExB.of {p : Addr} {H H2 H4 : Hp} {g s : Int} (e : Ex H H2) (e4 : Ex (upd H2 p (.lst [.int g, .int s])) H4) (hg : 0 ≤ g) (hs : 0 ≤ s) : ExB p H H4 :=
  ⟨⟨g, s, e4 _ _ upd_same, hg, hs⟩, fun b o hb h => e4 _ _ (by rw [upd_ne hb]; exact e _ _ h)⟩
theorem mod_nat (g : Int) {m : Nat} (h : 1 ≤ m) : ∃ d : Nat, g % (m : Int) = d ∧ d < m := by
  have h0 : 0 ≤ g % (m : Int) := Int.emod_nonneg _ (by omega)
  have h1 : g % (m : Int) < m := Int.emod_lt_of_pos _ (by omega)
  exact ⟨(g % (m : Int)).toNat, by omega, by omega⟩
theorem q_ifSet {t t' : TT} {te te' : TE} {tz : TS} {D : Ends} {σ : L2.St} {H : Hp} {b b' : Bool} {i : Nat} {c0 : Int} (Pc : Int → Prop) (h : EvT t σ H b) (h1 : b = true → ∃ c, Pc c ∧ Ev te σ H (.int c)) (h' : b = false → EvT t' σ H b') (h2 : b = false → b' = true → ∃ c, Pc c ∧ Ev te' σ H (.int c)) (h3 : Pc c0 ∧ σ.set i (some (.int c0)) = σ)
    (k : ∀ c H1, Pc c → Ex H H1 → tz D (σ.set i (some (.int c))) H1) : tSeq (tIfS t (tAsg te (gName i)) (tIfS t' (tAsg te' (gName i)) tNext)) tz D σ H := by
  refine s_if (D := { D with nx := tz D }) h (fun z H1 e1 => ?_) (fun z H1 e1 => ?_)
  · obtain ⟨c, hc, v⟩ := h1 z
    exact v H1 e1 _ fun H2 e2 => k c H2 hc (e1.trans e2)
  · refine h' z H1 e1 _ fun H2 e2 => ?_
    refine ite2 (fun y => ?_) fun _ => ?_
    · obtain ⟨c, hc, v⟩ := h2 z y
      exact v H2 (e1.trans e2) _ fun H3 e3 => k c H3 hc ((e1.trans e2).trans e3)
    · have q := k c0 H2 h3.1 (e1.trans e2)
      rw [h3.2] at q
      exact q
theorem lt_log {m : Nat} (h : m ≤ 100000) : (m : Int).natAbs.log2 < 9000 := by
  have z : m < 2 ^ 20 := Nat.lt_of_le_of_lt h (by decide)
  have y := PySem.Flt.log2_lt_of (by decide) (show (m : Int).natAbs < 2 ^ 20 by rw [Int.natAbs_natCast]; exact z)
  omega
theorem ev_int1 {ta : TE} {σ : L2.St} {H : Hp} {i : Int} (h : Ev ta σ H (.int i)) : Ev (tCB (fun xs H Q => (∃ i, xs = [V.int i] ∧ Q (.int i) H) ∨ ∃ k, xs = [.bl k] ∧ Q (.int (if k then 1 else 0)) H) (tCons ta tNil)) σ H (.int i) := ev_cb (Evl.ea_cons h Evl.ea_nil) rc_int
theorem ev_lenL {K : PySem.W.Frag} {ta : TE} {σ : L2.St} {H : Hp} {a : Addr} {xs : List V} (h : Ev ta σ H (.ref a)) (q : SqL K H a xs) : Ev (tCB (fun ys H Q => ∃ x n, ys = [x] ∧ LenV K x H n ∧ Q (.int n) H) (tCons ta tNil)) σ H (.int (xs.length : Int)) := ev_cb (Evl.ea_cons h Evl.ea_nil) (rc_lenL q)
end Pu
namespace Pu
open PySem PySem.Spec PyProof.Rows L2 GxR Evl
/-- list(x) -/
def rListOf (K : PySem.W.Frag) (xs : List V) (H : Hp) (Q : VK) : Prop := ∃ p ys, xs = [.ref p] ∧ (SqL K H p ys ∨ SqT K H p ys) ∧ ∀ l, H l = none → Q (.ref l) (upd H l (.lst ys))
/-- a statement told by what holds ahead of it and behind it -/
def Tr (X : Cx) (st : Stmt) (A B : L2.St → Hp → Prop) : Prop := ∃ t, PS X st t ∧ ∀ D σ H, A σ H → (∀ σ' H', B σ' H' → D.nx σ' H') → t D σ H
def Trs (X : Cx) (l : List Stmt) (A B : L2.St → Hp → Prop) : Prop := ∃ t, PSs X l t ∧ ∀ D σ H, A σ H → (∀ σ' H', B σ' H' → D.nx σ' H') → t D σ H
theorem Trs.cons {X : Cx} {st : Stmt} {l : List Stmt} {A B C : L2.St → Hp → Prop} (h : Tr X st A B) (k : Trs X l B C) : Trs X (st :: l) A C := by
  obtain ⟨t, h1, h2⟩ := h
  obtain ⟨u, k1, k2⟩ := k
  exact ⟨_, pss_cons h1 k1, fun D σ H a q => h2 { D with nx := u D } σ H a fun σ' H' b => k2 D σ' H' b q⟩
theorem Trs.one {X : Cx} {st : Stmt} {A B : L2.St → Hp → Prop} (h : Tr X st A B) : Trs X [st] A B := by
  obtain ⟨t, h1, h2⟩ := h
  exact ⟨_, pss_one h1, h2⟩
theorem Trs.pre {X : Cx} {l : List Stmt} {A A' B : L2.St → Hp → Prop} (h : Trs X l A B) (e : ∀ σ H, A' σ H → A σ H) : Trs X l A' B := by
  obtain ⟨t, h1, h2⟩ := h
  exact ⟨t, h1, fun D σ H a q => h2 D σ H (e σ H a) q⟩
/-- slots -/
theorem sl_ne {σ : L2.St} {i j : Nat} {v : Option V} {x : V} (h : σ[j]? = some (some x)) (n : i ≠ j) : (σ.set i v)[j]? = some (some x) := by rw [List.getElem?_set_ne n]; exact h
theorem sl_eq {σ : L2.St} {i : Nat} {v : V} (h : i < σ.length) : (σ.set i (some v))[i]? = some (some v) := List.getElem?_set_self h
/-- the arguments by their names, put in the told order -/
def perm {α : Type} (is : List Nat) (l : List α) : List α := if l.length = is.length then is.filterMap (fun i => l[i]?) else []
theorem filt_rel {zs : List V} {ws : List Value} (h : Vals zs ws) : ∀ is : List Nat, Vals (is.filterMap fun i => zs[i]?) (is.filterMap fun i => ws[i]?)
  | [] => .nil
  | i :: is => by
    rw [List.filterMap_cons, List.filterMap_cons]
    cases e : zs[i]? with
    | none =>
      have e2 : ws[i]? = none := by
        rw [List.getElem?_eq_none_iff] at e ⊢
        rw [← h.length]
        exact e
      rw [e2]
      exact filt_rel h is
    | some z =>
      obtain ⟨u, hu, r⟩ := h.get e
      rw [hu]
      exact .cons r (filt_rel h is)
theorem perm_rel {is : List Nat} {zs : List V} {ws : List Value} (h : Vals zs ws) : Vals (perm is zs) (perm is ws) := by
  unfold perm
  rw [h.length]
  split
  · exact filt_rel h is
  · exact .nil
theorem kwOk {K : PySem.W.Frag} {fd : FuncData} {ps ks : List Str} {is : List Nat} (h : ∀ ws : List Value, ws.length = is.length → bindArgs fd ⟨[], ks.zip ws⟩ = pure (ps.zip (perm is ws))) (hn : 0 < ps.length) : KwOk K fd ps ks (perm is) (perm is) := by
  refine ⟨fun s ws _ hl => ?_, perm_rel⟩
  refine .of_eq (h ws ?_)
  unfold perm at hl
  split at hl
  · assumption
  · rw [List.length_nil] at hl
    omega
/-- the script stays what it is as long as only p and T change -/
def Scr (K : PySem.W.Frag) (T p a : Addr) (ns : List Int) (H : Hp) : Prop := ∀ H', (∀ b o, b ≠ p → b ≠ T → H b = some o → H' b = some o) → SqL K H' a (ns.map V.int)
structure Hs (K : PySem.W.Frag) (T a : Addr) (ns : List Int) (p : Addr) (H : Hp) : Prop where
  tab : TabG H T
  box : BoxAt H p
  scr : Scr K T p a ns H
/-- a step that changes but the box and the table -/
structure Stp (T p : Addr) (H H' : Hp) : Prop where
  tab : TabG H' T
  box : BoxAt H' p
  kp : ∀ b o, b ≠ p → b ≠ T → H b = some o → H' b = some o
variable {K : PySem.W.Frag} {T a p : Addr} {ns : List Int} {H H' H2 : Hp}
theorem BoxAt.ne (h : BoxAt H p) (t : TabG H T) : p ≠ T := by
  obtain ⟨g, s, h1, _⟩ := h
  exact TabG.ne t h1 fun ps z => by cases z
theorem Hs.ex (h : Hs K T a ns p H) (e : Ex H H') : Stp T p H H' := ⟨TabG.ex h.tab e, h.box.ex e, fun b o _ _ q => e b o q⟩
theorem Hs.exT (h : Hs K T a ns p H) (e : ExT T H H') : Stp T p H H' := by
  refine ⟨e.1, ?_, fun b o _ n q => e.2 b o n q⟩
  obtain ⟨g, s, h1, h2⟩ := h.box
  exact ⟨g, s, e.2 _ _ (h.box.ne h.tab) h1, h2⟩
theorem Hs.exB (h : Hs K T a ns p H) (e : ExB p H H') : Stp T p H H' := by
  refine ⟨?_, e.1, fun b o n _ q => e.2 b o n q⟩
  obtain ⟨ps, h1, h2⟩ := h.tab
  exact ⟨ps, e.2 _ _ (fun z => h.box.ne h.tab z.symm) h1, h2⟩
theorem Hs.step (h : Hs K T a ns p H) (s : Stp T p H H') : Hs K T a ns p H' := ⟨s.tab, s.box, fun H'' q => h.scr H'' fun b o n m e => q b o n m (s.kp b o n m e)⟩
theorem Stp.trans (s : Stp T p H H') (u : Stp T p H' H2) : Stp T p H H2 := ⟨u.tab, u.box, fun b o n m e => u.kp b o n m (s.kp b o n m e)⟩
theorem Hs.scrL (h : Hs K T a ns p H) : SqL K H a (ns.map V.int) := h.scr H fun _ _ _ _ e => e
theorem Hs.ofNew (t : TabG H T) (s : SqL K H a (ns.map V.int)) (n : H p = none) (e : Ex H H') (b : BoxAt H' p) : Hs K T a ns p H' := by
  refine ⟨TabG.ex t e, b, fun H'' q => ?_⟩
  refine s.imp (fun s => ?_) id
  rcases s with s | ⟨o, s⟩
  · exact .inl (q _ _ (fun z => by rw [z, n] at s; cases s) (TabG.ne t s fun ps z => by cases z) (e _ _ s))
  · exact .inr ⟨o, q _ _ (fun z => by rw [z, n] at s; cases s) (TabG.ne t s fun ps z => by cases z) (e _ _ s)⟩
theorem Hs.renew {p' : Addr} (h : Hs K T a ns p H) (n : H p' = none) (e : Ex H H') (b : BoxAt H' p') : Hs K T a ns p' H' := Hs.ofNew h.tab h.scrL n e b
theorem Stp.tup (h : Hs K T a ns p H) (s : Stp T p H H') {b : Addr} {xs : List V} (e : H b = some (.tup xs)) : H' b = some (.tup xs) := by
  obtain ⟨g, s', h1, _⟩ := h.box
  exact s.kp _ _ (fun z => by rw [z, h1] at e; cases e) (TabG.ne h.tab e fun ps z => by cases z) e
theorem Stp.prT (h : Hs K T a ns p H) (s : Stp T p H H') {L : List (Nat × Nat)} {xs : List V} (q : PrT H L xs) : PrT H' L xs := Paired.mapP q fun _ _ ⟨b, h1, h2⟩ => ⟨b, h1, s.tup h h2⟩
theorem Stp.lst (h : Hs K T a ns p H) (s : Stp T p H H') {b : Addr} {xs : List V} (n : b ≠ p) (e : H b = some (.lst xs)) : H' b = some (.lst xs) := s.kp _ _ n (TabG.ne h.tab e fun ps z => by cases z) e
theorem Hs.fresh (h : Hs K T a ns p H) (s : Stp T p H H') {b : Addr} (e : H' b = none) : H b = none := by
  cases z : H b with
  | none => rfl
  | some o =>
    obtain ⟨g, s', h1, _⟩ := s.box
    obtain ⟨ps, h2, _⟩ := s.tab
    by_cases q : b = p
    · rw [q, h1] at e; cases e
    · by_cases r : b = T
      · rw [r, h2] at e; cases e
      · rw [s.kp b o q r z] at e; cases e
end Pu
namespace Pu
open PySem PySem.Spec PyProof.Rows L2 GxR Evl
/-- data that is small enough to be shown -/
structure Sm (n m : Nat) (d : PyData) : Prop where
  dp : PyData.depth d ≤ n
  bk : PyData.bulk d ≤ m
  lf : PyData.leavesShort 13 d = true
  sh : PyData.showable d = true
  nd : PyData.hasDict d = false
theorem Sm.none : Sm 0 0 .none := ⟨Nat.le_refl _, Nat.le_refl _, rfl, rfl, rfl⟩
theorem Sm.int {i : Nat} (h : i ≤ 1000000) : Sm 0 0 (.int (i : Int)) := by
  refine ⟨Nat.le_refl _, Nat.le_refl _, ?_, ?_, rfl⟩
  · show decide _ = true
    exact decide_eq_true (PyData.shown_int_le (by rw [Int.natAbs_natCast]; exact Nat.lt_of_le_of_lt h (by decide)))
  · show decide _ = true
    refine decide_eq_true ?_
    rw [Int.natAbs_natCast]
    exact Nat.lt_of_lt_of_le (PySem.Flt.log2_lt_of (by decide) (Nat.lt_of_le_of_lt h (by decide : 1000000 < 2 ^ 20))) (by decide)
theorem Sm.mono {n m n' m' : Nat} {d : PyData} (s : Sm n m d) (h : n ≤ n') (k : m ≤ m') : Sm n' m' d := ⟨Nat.le_trans s.dp h, Nat.le_trans s.bk k, s.lf, s.sh, s.nd⟩
theorem sm_all {n m : Nat} : ∀ {ds : List PyData}, (∀ d ∈ ds, Sm n m d) → PyData.depthAll ds ≤ n ∧ PyData.bulkAll ds ≤ ds.length * (m + 1) ∧ PyData.leavesShortAll 13 ds = true ∧ PyData.showableAll ds = true ∧ PyData.hasDictAll ds = false
  | [], _ => ⟨Nat.zero_le _, Nat.zero_le _, rfl, rfl, rfl⟩
  | d :: ds, h => by
    obtain ⟨h1, h2, h3, h4, h5⟩ := sm_all (ds := ds) fun x hx => h x (List.mem_cons_of_mem _ hx)
    have s := h d (List.mem_cons_self ..)
    refine ⟨?_, ?_, ?_, ?_, ?_⟩
    · show max (PyData.depth d) (PyData.depthAll ds) ≤ n
      exact Nat.max_le.mpr ⟨s.dp, h1⟩
    · show PyData.bulk d + 1 + PyData.bulkAll ds ≤ (ds.length + 1) * (m + 1)
      have := s.bk
      rw [Nat.add_mul]
      omega
    · show (PyData.leavesShort 13 d && PyData.leavesShortAll 13 ds) = true
      rw [s.lf, h3]
      rfl
    · show (PyData.showable d && PyData.showableAll ds) = true
      rw [s.sh, h4]
      rfl
    · show (PyData.hasDict d || PyData.hasDictAll ds) = false
      rw [s.nd, h5]
      rfl
theorem Sm.tup {n m c : Nat} {ds : List PyData} (h : ∀ d ∈ ds, Sm n m d) (hc : ds.length ≤ c) : Sm (n + 1) (c * (m + 1)) (.tuple ds) := by
  obtain ⟨h1, h2, h3, h4, h5⟩ := sm_all h
  exact ⟨Nat.succ_le_succ h1, Nat.le_trans h2 (Nat.mul_le_mul_right _ hc), h3, h4, h5⟩
theorem Sm.lst {n m c : Nat} {ds : List PyData} (h : ∀ d ∈ ds, Sm n m d) (hc : ds.length ≤ c) : Sm (n + 1) (c * (m + 1)) (.list ds) := by
  obtain ⟨h1, h2, h3, h4, h5⟩ := sm_all h
  exact ⟨Nat.succ_le_succ h1, Nat.le_trans h2 (Nat.mul_le_mul_right _ hc), h3, h4, h5⟩
theorem Sm.pair {p : Nat × Nat} (h : p.1 + p.2 ≤ 1000000) : Sm 1 2 (dPair p) := by
  refine Sm.tup (c := 2) (m := 0) (fun d hd => ?_) (Nat.le_refl _)
  rcases List.mem_cons.mp hd with z | hd
  · rw [z]; exact Sm.int (by omega)
  · rcases List.mem_cons.mp hd with z | hd
    · rw [z]; exact Sm.int (by omega)
    · cases hd
theorem Sm.shape {L : List (Nat × Nat)} (hl : L.length ≤ 1000) (h : ∀ p ∈ L, p.1 + p.2 ≤ 1000000) : Sm 2 3000 (dShape L) := by
  refine Sm.tup (c := 1000) (m := 2) (fun d hd => ?_) (by rw [List.length_map]; exact hl)
  obtain ⟨p, hp, rfl⟩ := List.mem_map.mp hd
  exact Sm.pair (h p hp)
theorem Sm.two {n m : Nat} {d e : PyData} (h : Sm n m d) (k : Sm n m e) : Sm (n + 1) (2 * (m + 1)) (.list [d, e]) := Sm.lst (fun x hx => by
  rcases List.mem_cons.mp hx with z | hx
  · rw [z]; exact h
  · rcases List.mem_cons.mp hx with z | hx
    · rw [z]; exact k
    · cases hx) (Nat.le_refl 2)
theorem Sm.d60 {n m : Nat} {d : PyData} (s : Sm n m d) (hn : n ≤ 60) : PyData.depth d ≤ 60 := Nat.le_trans s.dp hn
theorem Sm.len {n m : Nat} {d : PyData} (s : Sm n m d) (hm : m ≤ 1000000) : d.shown.length ≤ sizeLine := PyData.shown_fits_bulk (B := 13) (by decide) (by decide) s.lf (Nat.le_trans s.bk (Nat.le_trans hm (by decide)))
/-- repr of a list or a tuple that is small: a text -/
theorem rc_repr {K : PySem.W.Frag} {H : Hp} {v : V} {d : PyData} {n m : Nat} (h : Dp K H v d) (hd : isDisplay d = true) (s : Sm n m d) (hn : n ≤ 60) (hm : m ≤ 1000000) {Q : VK} (q : Q (.str d.shown) H) : rRepr K [v] H Q :=
  ⟨v, d, rfl, h, hd, s.sh, s.nd, Nat.le_trans s.dp hn, PyData.shown_fits_bulk (B := 13) (by decide) (by decide) s.lf (Nat.le_trans s.bk (Nat.le_trans hm (by decide))), q⟩
end Pu
set_option Elab.async false
set_option linter.all false
set_option maxRecDepth 100000
set_option maxHeartbeats 4000000
namespace K09
open PySem PySem.Spec PyProof.Rows L2 GxR Pu
def topS (i : Nat) : Stmt := PySem.Challenge.pw_farstory_k09_whole_stores_beside_all_row.main.body.getD i (.Pass ⟨0, 0, 0, 0⟩)
abbrev sIsInteger : Stmt := topS 4
abbrev sIsNumber : Stmt := topS 5
abbrev sIsSequence : Stmt := topS 6
abbrev sIsOfParts : Stmt := topS 7
abbrev sNeedNumber : Stmt := topS 8
abbrev sIsKeep : Stmt := topS 10
abbrev sNeedKeep : Stmt := topS 11
abbrev sCountsOf : Stmt := topS 12
abbrev sShapeFrom : Stmt := topS 13
abbrev sIsStretch : Stmt := topS 14
abbrev sIsShape : Stmt := topS 15
abbrev sFirstOf : Stmt := topS 16
abbrev sIsReading : Stmt := topS 19
abbrev sIsSize : Stmt := topS 20
abbrev sSumsWith : Stmt := topS 21
abbrev sEndsOf : Stmt := topS 22
abbrev sIsSpan : Stmt := topS 23
abbrev sRowSpan : Stmt := topS 24
abbrev sBehind : Stmt := topS 25
abbrev sSpanOfAll : Stmt := topS 26
abbrev sJoin : Stmt := topS 27
abbrev sAreSpans : Stmt := topS 28
abbrev sEmptyStore : Stmt := topS 30
abbrev sShapeOf : Stmt := topS 31
abbrev sIsStore : Stmt := topS 32
abbrev sSettled : Stmt := topS 33
abbrev sLay : Stmt := topS 34
abbrev sLetGo : Stmt := topS 35
abbrev sSpanWith : Stmt := topS 36
abbrev sLaidAll : Stmt := topS 37
abbrev sBox : Stmt := topS 39
abbrev sTake : Stmt := topS 40
abbrev sPick : Stmt := topS 41
abbrev sLawLaid : Stmt := topS 42
abbrev sLawStore : Stmt := topS 43
abbrev sLawHanded : Stmt := topS 44
abbrev sLaw : Stmt := topS 45
theorem scIsInteger : FnScope ["value"] ["value"] (defScope sIsInteger) := ⟨rfl, rfl, rfl, by decide +kernel, rfl, by decide +kernel, by decide +kernel⟩
theorem scIsNumber : FnScope ["value"] ["value"] (defScope sIsNumber) := ⟨rfl, rfl, rfl, by decide +kernel, rfl, by decide +kernel, by decide +kernel⟩
theorem scIsSequence : FnScope ["value"] ["value"] (defScope sIsSequence) := ⟨rfl, rfl, rfl, by decide +kernel, rfl, by decide +kernel, by decide +kernel⟩
theorem scIsOfParts : FnScope ["value", "many"] ["value", "many"] (defScope sIsOfParts) := ⟨rfl, rfl, rfl, by decide +kernel, rfl, by decide +kernel, by decide +kernel⟩
theorem scIsStretch : FnScope ["value"] ["value"] (defScope sIsStretch) := ⟨rfl, rfl, rfl, by decide +kernel, rfl, by decide +kernel, by decide +kernel⟩

/-- the names of the module that the defs read -/
structure Mg (mg : Str → Option Value) : Prop where
  isinstance : mg "isinstance" = none
  int : mg "int" = none
  bool : mg "bool" = none
  list : mg "list" = none
  tuple : mg "tuple" = none
  len : mg "len" = none
  range : mg "range" = none
  enumerate : mg "enumerate" = none
  reversed : mg "reversed" = none
  all : mg "all" = none
  abs : mg "abs" = none
  max : mg "max" = none
  min : mg "min" = none
  set : mg "set" = none
  repr : mg "repr" = none

def isNum : V → Bool
  | .int i => decide (i ≥ 0)
  | _ => false
def isSeq : String → Bool := fun t => t == "tuple" || t == "list"
def pInteger : List V → Heap → V → Prop := fun vs g v => ∃ x t, vs = [x] ∧ TyG g x t ∧ v = .bl (t == "int")
def pNumber : List V → Heap → V → Prop := fun vs g v => ∃ x t, vs = [x] ∧ TyG g x t ∧ v = .bl (isNum x)
def pSequence : List V → Heap → V → Prop := fun vs g v => ∃ x t, vs = [x] ∧ TyG g x t ∧ v = .bl (isSeq t)
/-- the value's parts, if it has some -/
inductive PartsG (g : Heap) : V → Option Nat → Prop
  | seq {b : Bool} {a : Addr} {its : List Value} (h : SeqG g b a its) : PartsG g (.ref a) (some its.length)
  | no {x : V} {t : String} (h : TyG g x t) (n : isSeq t = false) : PartsG g x none
def pOfParts : List V → Heap → V → Prop := fun vs g v => ∃ (x : V) (n : Option Nat) (m : Int), vs = [x, .int m] ∧ PartsG g x n ∧ v = .bl (match n with | some k => decide ((k : Int) = m) | none => false)
/-- what is_stretch finds -/
inductive StG (g : Heap) : V → Bool → Prop
  | two {b : Bool} {a : Addr} {u0 u1 : Value} {x y : V} {t s : String} (h : SeqG g b a [u0, u1]) (r : RelV x u0) (r' : RelV y u1) (tx : TyG g x t) (ty : TyG g y s) : StG g (.ref a) (isNum x && isNum y)
  | len {b : Bool} {a : Addr} {its : List Value} (h : SeqG g b a its) (n : its.length ≠ 2) : StG g (.ref a) false
  | no {x : V} {t : String} (h : TyG g x t) (n : isSeq t = false) : StG g x false
def pStretch : List V → Heap → V → Prop := fun vs g v => ∃ x b, vs = [x] ∧ StG g x b ∧ v = .bl b
theorem StG.mono {g h : Heap} {x : V} {b : Bool} (y : StG g x b) (e : Ext g h) : StG h x b := by
  cases y with
  | two q r r' a b => exact .two (q.mono e) r r' (a.mono e) (b.mono e)
  | len q n => exact .len (q.mono e) n
  | no q n => exact .no (q.mono e) n
theorem PartsG.mono {g h : Heap} {x : V} {n : Option Nat} (y : PartsG g x n) (e : Ext g h) : PartsG h x n := by
  cases y with
  | seq q => exact .seq (q.mono e)
  | no q n => exact .no (q.mono e) n

section
variable {P : Program} {w : World} {K : PySem.W.Frag} {mg : Str → Option Value} {base : Heap}
theorem kitsI {g : Heap} {x : V} {t : String} (y : TyG g x t) : ∃ b1 b2, kitB t "int" = some b1 ∧ kitB t "bool" = some b2 ∧ (b1 && !b2) = (t == "int") := by
  cases y with
  | non => exact ⟨false, false, by decide +kernel, by decide +kernel, by decide⟩
  | bl b => exact ⟨true, true, by decide +kernel, by decide +kernel, by decide⟩
  | int i => exact ⟨true, false, by decide +kernel, by decide +kernel, by decide⟩
  | str x => exact ⟨false, false, by decide +kernel, by decide +kernel, by decide⟩
  | tup q => exact ⟨false, false, by decide +kernel, by decide +kernel, by decide⟩
  | lst q => exact ⟨false, false, by decide +kernel, by decide +kernel, by decide⟩
theorem kitsS {g : Heap} {x : V} {t : String} (y : TyG g x t) : PySem.W.kitAny K (.type t) (["list", "tuple"].map Value.type) = some (isSeq t) := by
  have two : ∀ b1 b2, kitB t "list" = some b1 → kitB t "tuple" = some b2 → PySem.W.kitAny K (.type t) (["list", "tuple"].map Value.type) = some (b1 || b2) := fun b1 b2 h1 h2 =>
    kitAny_cons (kit_ty h1) (fun e => kitAny_cons (kit_ty h2) (fun e2 => by rw [e, e2]; exact kitAny_nil) (fun e2 => by rw [e2]; simp)) (fun e => by rw [e]; rfl)
  cases y with
  | non => exact two false false (by decide +kernel) (by decide +kernel)
  | bl b => exact two false false (by decide +kernel) (by decide +kernel)
  | int i => exact two false false (by decide +kernel) (by decide +kernel)
  | str x => exact two false false (by decide +kernel) (by decide +kernel)
  | tup q => exact two false true (by decide +kernel) (by decide +kernel)
  | lst q => exact two true false (by decide +kernel) (by decide +kernel)

theorem pf_is_integer {f : Addr} {fd : FuncData} (M : L2.Mod K mg base) (G : Mg mg) (F : Fun K "is_integer" "is_integer" sIsInteger f fd) : PF P w K mg base 1 f fd ["value"] pInteger := by
  refine pf_ret M F scIsInteger rfl (by decide +kernel) (fun cdv A L g us vs v hr hx r hl h hn => ?_) fun vs g h v e q => ?_
  · obtain ⟨x, t, rfl, ty, rfl⟩ := h
    obtain ⟨u, rfl, ru⟩ := vals1 r
    obtain ⟨m, ns, hm⟩ := hn 0 "value" u rfl rfl
    have FR : FrP K mg base A (envOfC "is_integer" (defScope sIsInteger) L f cdv) g := ⟨M, hx, rfl, rfl, rfl, hr.hd⟩
    have val : ∀ {pos : Pos}, EV P w A (envOfC "is_integer" (defScope sIsInteger) L f cdv) g (.Name "value" pos) x := ev_loc FR rfl ns hm ru
    obtain ⟨b1, b2, h1, h2, e⟩ := kitsI ty
    rw [← e]
    exact ev_and (ev_isi FR rfl G.isinstance val ty rfl G.int (by decide +kernel) h1) fun _ => ev_one (ev_not (ev_isi FR rfl G.isinstance val ty rfl G.bool (by decide +kernel) h2))
  · obtain ⟨x, t, h1, h2, h3⟩ := q
    exact ⟨x, t, h1, h2.mono e, h3⟩
theorem pf_is_number {f f1 : Addr} {fd fd1 : FuncData} (M : L2.Mod K mg base) (G : Mg mg) (F : Fun K "is_number" "is_number" sIsNumber f fd) (F1 : Fun K "is_integer" "is_integer" sIsInteger f1 fd1) (b1 : Binds K fd1 ["value"] []) (m1 : mg "is_integer" = some (.ref f1)) :
    PF P w K mg base 2 f fd ["value"] pNumber := by
  have G1 : PF P w K mg base 1 f1 fd1 ["value"] pInteger := pf_is_integer M G F1
  refine pf_ret M F scIsNumber rfl (by decide +kernel) (fun cdv A L g us vs v hr hx r hl h hn => ?_) fun vs g h v e q => ?_
  · obtain ⟨x, t, rfl, ty, rfl⟩ := h
    obtain ⟨u, rfl, ru⟩ := vals1 r
    obtain ⟨m, ns, hm⟩ := hn 0 "value" u rfl rfl
    have FR : FrP K mg base A (envOfC "is_number" (defScope sIsNumber) L f cdv) g := ⟨M, hx, rfl, rfl, rfl, hr.hd⟩
    have val : ∀ {pos : Pos}, EV P w A (envOfC "is_number" (defScope sIsNumber) L f cdv) g (.Name "value" pos) x := ev_loc FR rfl ns hm ru
    have one : ∀ {p q pos : Pos}, EV P w A (envOfC "is_number" (defScope sIsNumber) L f cdv) g (.Call (.Name "is_integer" p) [.Name "value" q] [] pos) (.bl (t == "int")) := fun {p q pos} =>
      ev_pf FR G1 hr rfl m1 F1.kp b1 (ea_cons val ea_nil) rfl fun h e => ⟨x, t, rfl, ty.mono e, rfl⟩
    cases ty with
    | int i => exact ev_and (x := true) (y := decide (i ≥ 0)) one fun _ => ev_one (ev_ge val ev_int)
    | non => exact ev_and (x := false) (y := false) one fun h => nomatch h
    | bl b => exact ev_and (x := false) (y := false) one fun h => nomatch h
    | str s => exact ev_and (x := false) (y := false) one fun h => nomatch h
    | tup s => exact ev_and (x := false) (y := false) one fun h => nomatch h
    | lst s => exact ev_and (x := false) (y := false) one fun h => nomatch h
  · obtain ⟨x, t, h1, h2, h3⟩ := q
    exact ⟨x, t, h1, h2.mono e, h3⟩
theorem pf_is_sequence {f : Addr} {fd : FuncData} (M : L2.Mod K mg base) (G : Mg mg) (F : Fun K "is_sequence" "is_sequence" sIsSequence f fd) : PF P w K mg base 1 f fd ["value"] pSequence := by
  refine pf_ret M F scIsSequence rfl (by decide +kernel) (fun cdv A L g us vs v hr hx r hl h hn => ?_) fun vs g h v e q => ?_
  · obtain ⟨x, t, rfl, ty, rfl⟩ := h
    obtain ⟨u, rfl, ru⟩ := vals1 r
    obtain ⟨m, ns, hm⟩ := hn 0 "value" u rfl rfl
    have FR : FrP K mg base A (envOfC "is_sequence" (defScope sIsSequence) L f cdv) g := ⟨M, hx, rfl, rfl, rfl, hr.hd⟩
    exact ev_isiT (Ts := ["list", "tuple"]) FR rfl G.isinstance (ev_loc FR rfl ns hm ru) ty (ea_cons (ev_blt FR rfl G.list (by decide +kernel) rfl) (ea_cons (ev_blt FR rfl G.tuple (by decide +kernel) rfl) ea_nil)) (kitsS ty) (by decide)
  · obtain ⟨x, t, h1, h2, h3⟩ := q
    exact ⟨x, t, h1, h2.mono e, h3⟩
theorem pf_is_of_parts {f f1 : Addr} {fd fd1 : FuncData} (M : L2.Mod K mg base) (G : Mg mg) (F : Fun K "is_of_parts" "is_of_parts" sIsOfParts f fd) (F1 : Fun K "is_sequence" "is_sequence" sIsSequence f1 fd1) (b1 : Binds K fd1 ["value"] []) (m1 : mg "is_sequence" = some (.ref f1)) :
    PF P w K mg base 2 f fd ["value", "many"] pOfParts := by
  have G1 : PF P w K mg base 1 f1 fd1 ["value"] pSequence := pf_is_sequence M G F1
  refine pf_ret M F scIsOfParts rfl (by decide +kernel) (fun cdv A L g us vs v hr hx r hl h hn => ?_) fun vs g h v e q => ?_
  · obtain ⟨x, n, k, rfl, pt, rfl⟩ := h
    obtain ⟨u, u2, rfl, ru, ru2⟩ := vals2 r
    obtain ⟨m, ns, hm⟩ := hn 0 "value" u rfl rfl
    obtain ⟨m2, ns2, hm2⟩ := hn 1 "many" u2 rfl rfl
    have FR : FrP K mg base A (envOfC "is_of_parts" (defScope sIsOfParts) L f cdv) g := ⟨M, hx, rfl, rfl, rfl, hr.hd⟩
    have val : ∀ {pos : Pos}, EV P w A (envOfC "is_of_parts" (defScope sIsOfParts) L f cdv) g (.Name "value" pos) x := ev_loc FR rfl ns hm ru
    have one : ∀ {t : String} {p q pos : Pos}, TyG g x t → EV P w A (envOfC "is_of_parts" (defScope sIsOfParts) L f cdv) g (.Call (.Name "is_sequence" p) [.Name "value" q] [] pos) (.bl (isSeq t)) := fun {t p q pos} ty =>
      ev_pf FR G1 hr rfl m1 F1.kp b1 (ea_cons val ea_nil) rfl fun h e => ⟨x, t, rfl, ty.mono e, rfl⟩
    cases pt with
    | @seq b a its q =>
      have s1 : isSeq (if b = true then "tuple" else "list") = true := by cases b <;> rfl
      refine ev_and (x := true) (y := decide ((its.length : Int) = k)) ?_ fun _ => ev_one (ev_eqI (ev_len FR rfl G.len val q) (ev_loc FR rfl ns2 hm2 ru2))
      rw [← s1]
      exact one (TyG.seq q)
    | @no _ t ty hno =>
      refine ev_and (x := false) (y := false) ?_ fun h => nomatch h
      rw [← hno]
      exact one ty
  · obtain ⟨x, n, k, h1, h2, h3⟩ := q
    exact ⟨x, n, k, h1, h2.mono e, h3⟩
theorem pf_is_stretch {f f1 f2 : Addr} {fd fd1 fd2 : FuncData} {f3 f4 : Addr} {fd3 fd4 : FuncData} (M : L2.Mod K mg base) (G : Mg mg) (F : Fun K "is_stretch" "is_stretch" sIsStretch f fd)
    (F1 : Fun K "is_of_parts" "is_of_parts" sIsOfParts f1 fd1) (b1 : Binds K fd1 ["value", "many"] []) (m1 : mg "is_of_parts" = some (.ref f1)) (F2 : Fun K "is_number" "is_number" sIsNumber f2 fd2) (b2 : Binds K fd2 ["value"] []) (m2 : mg "is_number" = some (.ref f2))
    (F3 : Fun K "is_sequence" "is_sequence" sIsSequence f3 fd3) (b3 : Binds K fd3 ["value"] []) (m3 : mg "is_sequence" = some (.ref f3)) (F4 : Fun K "is_integer" "is_integer" sIsInteger f4 fd4) (b4 : Binds K fd4 ["value"] []) (m4 : mg "is_integer" = some (.ref f4)) :
    PF P w K mg base 3 f fd ["value"] pStretch := by
  have G1 : PF P w K mg base 2 f1 fd1 ["value", "many"] pOfParts := pf_is_of_parts M G F1 F3 b3 m3
  have G2 : PF P w K mg base 2 f2 fd2 ["value"] pNumber := pf_is_number M G F2 F4 b4 m4
  refine pf_ret M F scIsStretch rfl (by decide +kernel) (fun cdv A L g us vs v hr hx r hl h hn => ?_) fun vs g h v e q => ?_
  · obtain ⟨x, b, rfl, st, rfl⟩ := h
    obtain ⟨u, rfl, ru⟩ := vals1 r
    obtain ⟨m, ns, hm⟩ := hn 0 "value" u rfl rfl
    have FR : FrP K mg base A (envOfC "is_stretch" (defScope sIsStretch) L f cdv) g := ⟨M, hx, rfl, rfl, rfl, hr.hd⟩
    have val : ∀ {pos : Pos}, EV P w A (envOfC "is_stretch" (defScope sIsStretch) L f cdv) g (.Name "value" pos) x := ev_loc FR rfl ns hm ru
    have parts : ∀ {n : Option Nat} {p q pos r : Pos} {k : Nat}, PartsG g x n → EV P w A (envOfC "is_stretch" (defScope sIsStretch) L f cdv) g (.Call (.Name "is_of_parts" p) [.Name "value" q, .Constant (.int 2) k r] [] pos)
        (.bl (match n with | some k => decide ((k : Int) = 2) | none => false)) := fun {n p q pos r k} pt => ev_pf FR G1 hr rfl m1 F1.kp b1 (ea_cons val (ea_cons ev_int ea_nil)) rfl fun h e => ⟨x, n, 2, rfl, pt.mono e, rfl⟩
    cases st with
    | @two b a u0 u1 y z t s q r0 r1 ty tz =>
      exact ev_and (x := true) (y := isNum y && isNum z) (parts (.seq q)) fun _ => ev_and (x := isNum y) (y := isNum z)
        (ev_pf FR G2 hr rfl m2 F2.kp b2 (ea_cons (ev_ix (j := 0) FR val ev_int q rfl r0) ea_nil) rfl fun h e => ⟨y, t, rfl, ty.mono e, rfl⟩)
        fun _ => ev_one (ev_pf FR G2 hr rfl m2 F2.kp b2 (ea_cons (ev_ix (j := 1) FR val ev_int q rfl r1) ea_nil) rfl fun h e => ⟨z, s, rfl, tz.mono e, rfl⟩)
    | @len b a its q n =>
      refine ev_and (x := false) (y := false) ?_ fun h => nomatch h
      have e : (false : Bool) = decide ((its.length : Int) = 2) := (decide_eq_false (by omega)).symm
      rw [e]
      exact parts (.seq q)
    | @no _ t ty n => exact ev_and (x := false) (y := false) (parts (.no ty n)) fun h => nomatch h
  · obtain ⟨x, b, h1, h2, h3⟩ := q
    exact ⟨x, b, h1, h2.mono e, h3⟩
end
end K09
namespace K09
open PySem PySem.Spec PyProof.Rows L2 GxR Pu Evl
theorem scNeedNumber : FnScope ["value"] ["value"] (defScope sNeedNumber) := ⟨rfl, rfl, rfl, by decide +kernel, rfl, by decide +kernel, by decide +kernel⟩
theorem scIsKeep : FnScope ["value"] ["value"] (defScope sIsKeep) := ⟨rfl, rfl, rfl, by decide +kernel, rfl, by decide +kernel, by decide +kernel⟩
theorem scNeedKeep : FnScope ["keep"] ["keep"] (defScope sNeedKeep) := ⟨rfl, rfl, rfl, by decide +kernel, rfl, by decide +kernel, by decide +kernel⟩
theorem scCountsOf : FnScope ["keep", "many", "counts", "left", "here"] ["keep", "many"] (defScope sCountsOf) := ⟨rfl, rfl, rfl, by decide +kernel, rfl, by decide +kernel, by decide +kernel⟩
/-- a promise of a value, of a new tuple -/
def spV (pre : List V → Hp → V → Prop) : Sp := fun vs H Q _ => ∃ v, pre vs H v ∧ ∀ H', Ex H H' → Q v H'
def spT (pre : List V → Hp → List V → Prop) : Sp := fun vs H Q _ => ∃ xs, pre vs H xs ∧ ∀ p H', H p = none → Ex H H' → H' p = some (.tup xs) → Q (.ref p) H'
theorem spV.use {pre : List V → Hp → V → Prop} {vs : List V} {H : Hp} {v : V} (h : ∀ H1, Ex H H1 → pre vs H1 v) : SpV (spV pre) vs H v := fun H1 e Q q E => ⟨v, h H1 e, q⟩
theorem spPure.use {P : Program} {w : World} {base : Heap} {ps : List Str} {sp : List V → Heap → V → Prop} {vs : List V} {H : Hp} {v : V} (hl : vs.length = ps.length) (h : ∀ H1, Ex H H1 → ∀ h, HOk P w H1 h → Ext base h → sp vs h v) :
    SpV (spPure P w base ps sp) vs H v := fun H1 e Q q E => ⟨hl, v, h H1 e, q H1 (Ex.refl H1)⟩
/-- the facts of all defs that others call -/
structure Fns (K : PySem.W.Frag) (mg : Str → Option Value) (x : Str) (ps : List Str) (st : Stmt) (f : Addr) (fd : FuncData) : Prop where
  fn : Fun K x x st f fd
  bd : Binds K fd ps []
  mg : mg x = some (.ref f)
section
variable {P : Program} {w : World} {K : PySem.W.Frag} {mg : Str → Option Value} {base : Heap}
variable {fInt fNum fSeq fPar fNN fIK fNK fCO fSF fNR fSh fSt fIS fFO fLS fLG fSA fFB : Addr} {dInt dNum dSeq dPar dNN dIK dNK dCO dSF dNR dSh dSt dIS dFO dLS dLG dSA dFB : FuncData}
def pNat : List V → Hp → V → Prop := fun vs H v => ∃ i : Int, vs = [.int i] ∧ 0 ≤ i ∧ v = .non
theorem ok_need_number {f : Addr} {fd : FuncData} (M : L2.Mod K mg base) (G : Mg mg) (F : Fun K "need_number" "need_number" sNeedNumber f fd) (F1 : Fns K mg "is_number" ["value"] sIsNumber fNum dNum) (F2 : Fns K mg "is_integer" ["value"] sIsInteger fInt dInt) :
    FnOk P w K mg base CX0 3 f fd ["value"] (spV pNat) := by
  have G1 : FnOk P w K mg base CX0 2 fNum dNum ["value"] (spPure P w base ["value"] pNumber) := (pf_is_number M G F1.fn F2.fn F2.bd F2.mg).ok
  refine F.ok scNeedNumber (fun vs H Q E h => ?_) (fun cdv A outer s H vs Q E hr h => ?_)
  · obtain ⟨v, ⟨i, rfl, _⟩, _⟩ := h
    rfl
  · obtain ⟨v, ⟨i, rfl, hi, rfl⟩, k⟩ := h
    refine ⟨_, pss_one (ps_if (pt_not (pt_val (pe_call G1 hr (by rfl) F1.mg F1.fn.kp F1.bd .nil pass0 (pa_cons (pv 0) pa_nil)))) pss_never pss_nil), ?_⟩
    have e1 : EvT (tNot (tB (tCall (spPure P w base ["value"] pNumber) [] E0 (tCons (tVar 0) tNil)))) (start ["value"] [V.int i]) H (!true) :=
      et_not (et_B (ev_call (ea_cons (ev_var rfl) ea_nil) (spPure.use rfl fun H1 _ h _ _ => ⟨.int i, "int", rfl, .int i, by rw [show isNum (.int i) = decide (i ≥ 0) from rfl, decide_eq_true hi]⟩)))
    exact s_if e1 (fun z => nomatch z) fun _ H1 e => k H1 e
def pKeepB : List V → Hp → V → Prop := fun vs H v => ∃ i : Int, vs = [.int i] ∧ 2 ≤ i ∧ i ≤ 8 ∧ v = .bl true
theorem ok_is_keep {f : Addr} {fd : FuncData} (M : L2.Mod K mg base) (G : Mg mg) (F : Fun K "is_keep" "is_keep" sIsKeep f fd) (F2 : Fns K mg "is_integer" ["value"] sIsInteger fInt dInt) :
    FnOk P w K mg base CX0 2 f fd ["value"] (spV pKeepB) := by
  have G1 : FnOk P w K mg base CX0 1 fInt dInt ["value"] (spPure P w base ["value"] pInteger) := (pf_is_integer M G F2.fn).ok
  refine F.ok scIsKeep (fun vs H Q E h => ?_) (fun cdv A outer s H vs Q E hr h => ?_)
  · obtain ⟨v, ⟨i, rfl, _⟩, _⟩ := h
    rfl
  · obtain ⟨v, ⟨i, rfl, h2, h8, rfl⟩, k⟩ := h
    refine ⟨_, pss_one (ps_ret (pe_and (pe_call G1 hr (by rfl) F2.mg F2.fn.kp F2.bd .nil pass0 (pa_cons (pv 0) pa_nil)) (pe_one (pe_chain op_le op_le pe_int (pv 0) pe_int)))), ?_⟩
    have e1 : Ev (tCall (spPure P w base ["value"] pInteger) [] E0 (tCons (tVar 0) tNil)) (start ["value"] [V.int i]) H (.bl true) :=
      ev_call (ea_cons (ev_var rfl) ea_nil) (spPure.use rfl fun H1 _ h _ _ => ⟨.int i, "int", rfl, .int i, rfl⟩)
    refine e1 H (Ex.refl H) _ fun H2 e2 => ⟨true, rfl, iteT ⟨.int i, rfl, 2, i, rfl, rfl, true, by show V.bl (decide (2 ≤ i)) = _; rw [decide_eq_true h2], iteT ⟨i, 8, rfl, rfl, ?_⟩⟩⟩
    show Q (V.bl (decide (i ≤ 8))) H2
    rw [decide_eq_true h8]
    exact k H2 e2
def pKeep : List V → Hp → V → Prop := fun vs H v => ∃ i : Int, vs = [.int i] ∧ 2 ≤ i ∧ i ≤ 8 ∧ v = .non
theorem ok_need_keep {f : Addr} {fd : FuncData} (M : L2.Mod K mg base) (G : Mg mg) (F : Fun K "need_keep" "need_keep" sNeedKeep f fd) (F1 : Fns K mg "is_keep" ["value"] sIsKeep fIK dIK) (F2 : Fns K mg "is_integer" ["value"] sIsInteger fInt dInt) :
    FnOk P w K mg base CX0 3 f fd ["keep"] (spV pKeep) := by
  have G1 : FnOk P w K mg base CX0 2 fIK dIK ["value"] (spV pKeepB) := ok_is_keep M G F1.fn F2
  refine F.ok scNeedKeep (fun vs H Q E h => ?_) (fun cdv A outer s H vs Q E hr h => ?_)
  · obtain ⟨v, ⟨i, rfl, _⟩, _⟩ := h
    rfl
  · obtain ⟨v, ⟨i, rfl, h2, h8, rfl⟩, k⟩ := h
    refine ⟨_, pss_one (ps_if (pt_not (pt_val (pe_call G1 hr (by rfl) F1.mg F1.fn.kp F1.bd .nil pass0 (pa_cons (pv 0) pa_nil)))) pss_never pss_nil), ?_⟩
    have e1 : EvT (tNot (tB (tCall (spV pKeepB) [] E0 (tCons (tVar 0) tNil)))) (start ["keep"] [V.int i]) H (!true) :=
      et_not (et_B (ev_call (ea_cons (ev_var rfl) ea_nil) (spV.use fun H1 _ => ⟨i, rfl, h2, h8, rfl⟩)))
    exact s_if e1 (fun z => nomatch z) fun _ H1 e => k H1 e
def natsV (cs : List Nat) : List V := cs.map fun c => .int (c : Nat)
def pCounts : List V → Hp → List V → Prop := fun vs H xs => ∃ k m : Nat, vs = [.int k, .int m] ∧ 2 ≤ k ∧ k ≤ 8 ∧ m ≤ 10000 ∧ xs = natsV (Sh.counts k m)
theorem ok_counts_of {f : Addr} {fd : FuncData} (M : L2.Mod K mg base) (G : Mg mg) (F : Fun K "counts_of" "counts_of" sCountsOf f fd) (F0 : Fns K mg "need_keep" ["keep"] sNeedKeep fNK dNK) (F1 : Fns K mg "is_keep" ["value"] sIsKeep fIK dIK) (F2 : Fns K mg "is_integer" ["value"] sIsInteger fInt dInt) :
    FnOk P w K mg base CX0 4 f fd ["keep", "many"] (spT pCounts) := by
  have G0 : FnOk P w K mg base CX0 3 fNK dNK ["keep"] (spV pKeep) := ok_need_keep M G F0.fn F1 F2
  refine F.ok scCountsOf (fun vs H Q E h => ?_) (fun cdv A outer s H vs Q E hr h => ?_)
  · obtain ⟨xs, ⟨k, m, rfl, _⟩, _⟩ := h
    rfl
  · obtain ⟨xs, ⟨k, m, rfl, h2, h8, hm, rfl⟩, kk⟩ := h
    refine ⟨_, pss_cons (ps_expr (pe_call G0 hr (by rfl) F0.mg F0.fn.kp F0.bd .nil pass0 (pa_cons (pv 0) pa_nil)))
      (pss_cons (ps_set (i := 2) scCountsOf.nd rfl (.inl rfl) (pe_lst pa_nil))
      (pss_cons (ps_set (i := 3) scCountsOf.nd rfl (.inl rfl) (pv 1))
      (pss_cons (ps_while PassesOwn.never (pt_cmpR op_gt (pv 3) (pv 0) (nomark _))
        (pss_cons (ps_set (i := 4) scCountsOf.nd rfl (.inl rfl) (pe_op op_sub (pv 0) (pe_op op_mod (pe_op op_sub (pv 3) (pv 0)) pe_int)))
        (pss_cons (ps_expr (pe_bm PySem.F.plainAttrs_list PySem.F.slot_list_append PySem.F.type_list_append mt_append (pv 2) (pa_cons (pv 4) pa_nil)))
        (pss_one (ps_set (i := 3) scCountsOf.nd rfl (.inl rfl) (pe_op op_fdiv (pe_op op_sub (pv 3) (pv 4)) pe_int))))))
      (pss_cons (ps_if (pt_cmpR op_gt (pv 3) pe_int (nomark _)) (pss_one (ps_expr (pe_bm PySem.F.plainAttrs_list PySem.F.slot_list_append PySem.F.type_list_append mt_append (pv 2) (pa_cons (pv 3) pa_nil)))) pss_nil)
      (pss_one (ps_ret (pe_callTy call_tuple_of (by rfl) G.tuple (by decide +kernel) (pa_cons (pv 2) pa_nil)))))))), ?_⟩
    refine q_drop (v := .non) (ev_call (ea_cons (ev_var rfl) ea_nil) (spV.use fun H1 _ => ⟨k, rfl, by omega, by omega, rfl⟩)) fun H1 e1 => ?_
    refine q_asgL (xs := []) (el_lst ea_nil (by decide)) fun p H2 hp e2 h2' => ?_
    refine q_asg (v := .int m) (ev_var rfl) fun H3 e3 => ?_
    have hp0 : H p = none := fresh_back e1 hp
    refine q_while (fun n σ' H' => ∃ (dn : List Nat) (y : Option V), σ' = [some (.int k), some (.int m), some (.ref p), some (.int (n : Nat)), y] ∧ Ex H H' ∧ H' p = some (.lst (natsV dn)) ∧ Sh.counts k m = dn ++ Sh.counts k n ∧ dn.length + n ≤ m) m
      ⟨[], none, rfl, (e1.trans e2).trans e3, e3 p _ h2', rfl, by simp⟩ fun n σ' H' hw => ?_
    obtain ⟨dn, y, rfl, ex, hH, hc, hn⟩ := hw
    refine ⟨decide ((k : Int) < (n : Int)), et_test (ev_op (ev_var rfl) (ev_var rfl) rv_I0), fun hb H4 e4 => ?_, fun hb H4 e4 => ?_⟩
    · have hkn : k < n := by have := of_decide_eq_true hb; omega
      have eh : ((k : Int) - ((n : Int) - (k : Int)) % 2) = ((k - (n - k) % 2 : Nat) : Int) := by omega
      have ed : (((n : Nat) : Int) - ((k - (n - k) % 2 : Nat) : Int)) / 2 = (((n - (k - (n - k) % 2)) / 2 : Nat) : Int) := by omega
      refine ⟨fun σ2 H5 => ∃ (dn' : List Nat) (y : Option V) (n' : Nat), n' < n ∧ σ2 = [some (.int k), some (.int m), some (.ref p), some (.int (n' : Nat)), y] ∧ Ex H H5 ∧ H5 p = some (.lst (natsV dn')) ∧ Sh.counts k m = dn' ++ Sh.counts k n' ∧ dn'.length + n' ≤ m, fun σ2 H5 hN => ?_, ?_⟩
      · obtain ⟨dn', y, n', hlt, a, b, c, d, e⟩ := hN
        exact ⟨n', hlt, dn', y, a, b, c, d, e⟩
      refine q_asg (v := .int ((k - (n - k) % 2 : Nat) : Int)) (ev_is (ev_op (ev_var rfl) (ev_op (ev_op (ev_var rfl) (ev_var rfl) rv_I0) ev_c (rv_I (by decide))) rv_I0) (by rw [eh])) fun H5 e5 => ?_
      have hp5 : H5 p = some (.lst (natsV dn)) := e5 p _ (e4 p _ hH)
      refine q_app (K := K) hp5 (ev_var rfl) (ev_var (v := .int ((k - (n - k) % 2 : Nat) : Int)) rfl) (by unfold natsV; rw [List.length_map]; omega) fun H6 e6 => ?_
      refine s_asg (v := .int (((n - (k - (n - k) % 2)) / 2 : Nat) : Int)) (ev_is (ev_op (ev_op (ev_var rfl) (ev_var rfl) rv_I0) ev_c (rv_I ⟨by decide, by decide⟩)) (by rw [ed])) fun H7 e7 => ?_
      refine ⟨dn ++ [k - (n - k) % 2], _, (n - (k - (n - k) % 2)) / 2, by omega, rfl, ?_, ?_, ?_, ?_⟩
      · exact (Ex.mut (((ex.trans e4).trans e5).trans e6) hp0).trans e7
      · refine e7 p _ ?_
        rw [upd_same]
        unfold natsV
        rw [List.map_append]
        rfl
      · rw [hc, Sh.counts_big hkn h2, List.append_assoc]
        rfl
      · rw [List.length_append, List.length_singleton]
        omega
    · have hkn : ¬ k < n := fun z => of_decide_eq_false hb (by omega)
      have hs : Sh.counts k n = if 0 < n then [n] else [] := Sh.counts_small hkn
      have fin : ∀ (H5 : Hp) (σ5 : L2.St), σ5[2]? = some (some (.ref p)) → Ex H H5 → H5 p = some (.lst (natsV (Sh.counts k m))) →
          tRet (tCB (fun xs H Q => ∃ p ys, xs = [.ref p] ∧ ((SqL K H p ys ∧ ∀ l, H l = none → Q (.ref l) (upd H l (.tup ys))) ∨ (SqT K H p ys ∧ Q (.ref p) H))) (tCons (tVar 2) tNil)) { nx := fun x H' => Q V.non H', rt := Q } σ5 H5 := fun H5 σ5 hσ ex5 hp5 =>
        ⟨_, hσ, p, _, rfl, .inl ⟨SqL.of hp5, fun l hl => kk l _ (fresh_back ex5 hl) (ex5.trans (Ex.new hl)) upd_same⟩⟩
      refine q_when (b := decide ((0 : Int) < (n : Int))) (et_test (ev_op (ev_var rfl) ev_c rv_I0)) (fun hb2 H5 e5 => ?_) fun hb2 H5 e5 => ?_
      · have h0 : 0 < n := by have := of_decide_eq_true hb2; omega
        have hp5 : H5 p = some (.lst (natsV dn)) := e5 p _ (e4 p _ hH)
        refine s_app (K := K) hp5 (ev_var rfl) (ev_var (v := .int (n : Nat)) rfl) (by unfold natsV; rw [List.length_map]; omega) fun H6 e6 => ?_
        refine fin _ _ rfl (Ex.mut (((ex.trans e4).trans e5).trans e6) hp0) ?_
        rw [upd_same, hc, hs, if_pos h0]
        unfold natsV
        rw [List.map_append]
        rfl
      · have h0 : ¬ 0 < n := fun z => of_decide_eq_false hb2 (by omega)
        refine fin _ _ rfl ((ex.trans e4).trans e5) ?_
        rw [hc, hs, if_neg h0, List.append_nil]
        exact e5 p _ (e4 p _ hH)
end
end K09
set_option Elab.async false
set_option linter.all false
set_option maxRecDepth 100000
set_option maxHeartbeats 4000000
namespace K09
open PySem PySem.Spec PyProof.Rows L2 GxR Pu Evl
def spSh (pre : List V → Hp → List (Nat × Nat) → Prop) : Sp := fun vs H Q _ => ∃ L, pre vs H L ∧ ∀ p xs H', H p = none → Ex H H' → H' p = some (.tup xs) → PrT H' L xs → Q (.ref p) H'
theorem scShapeFrom : FnScope ["keep", "first", "laid", "some", "row", "count", "sizes", "size", "place"] ["keep", "first", "laid"] (defScope sShapeFrom) := ⟨rfl, rfl, rfl, by decide +kernel, rfl, by decide +kernel, by decide +kernel⟩
def pShape : List V → Hp → List (Nat × Nat) → Prop := fun vs H L => ∃ k f l : Nat, vs = [.int k, .int f, .int l] ∧ 2 ≤ k ∧ k ≤ 8 ∧ f ≤ l ∧ l ≤ 10000 ∧ L = Sh.shp k f l
/-- sizes and counts -/
def szs (cs : List Nat) : List (Nat × Nat) := (List.range cs.length).map fun i => (2 ^ i, cs.getD i 0)
theorem szs_get {cs : List Nat} {i : Nat} (h : i < cs.length) : (szs cs)[i]? = some (2 ^ i, cs.getD i 0) := by
  unfold szs
  rw [List.getElem?_map, List.getElem?_range h]
  rfl
theorem drop_cons {cs : List Nat} {i : Nat} (h : i < cs.length) : cs.drop i = cs.getD i 0 :: cs.drop (i + 1) := by
  rw [List.drop_eq_getElem_cons h, List.getD_eq_getElem?_getD, List.getElem?_eq_getElem h]
  rfl
section
variable {P : Program} {w : World} {K : PySem.W.Frag} {mg : Str → Option Value} {base : Heap}
variable {fInt fNum fSeq fPar fNN fIK fNK fCO fSF fNR fSh fSt fIS fFO fLS fLG fSA fFB : Addr} {dInt dNum dSeq dPar dNN dIK dNK dCO dSF dNR dSh dSt dIS dFO dLS dLG dSA dFB : FuncData}
theorem ok_shape_from {f : Addr} {fd : FuncData} (M : L2.Mod K mg base) (G : Mg mg) (F : Fun K "shape_from" "shape_from" sShapeFrom f fd) (FC : Fns K mg "counts_of" ["keep", "many"] sCountsOf fCO dCO) (F0 : Fns K mg "need_keep" ["keep"] sNeedKeep fNK dNK) (F1 : Fns K mg "is_keep" ["value"] sIsKeep fIK dIK) (F2 : Fns K mg "is_integer" ["value"] sIsInteger fInt dInt) :
    FnOk P w K mg base CX0 5 f fd ["keep", "first", "laid"] (spSh pShape) := by
  have GC : FnOk P w K mg base CX0 4 fCO dCO ["keep", "many"] (spT pCounts) := ok_counts_of M G FC.fn F0 F1 F2
  refine F.ok scShapeFrom (fun vs H Q E h => ?_) (fun cdv A outer s H vs Q E hr h => ?_)
  · obtain ⟨L, ⟨k, f, l, rfl, _⟩, _⟩ := h
    rfl
  · obtain ⟨L, ⟨k, f, l, rfl, h2, h8, hfl, hl, rfl⟩, kk⟩ := h
    refine ⟨_, pss_cons (ps_set (i := 3) scShapeFrom.nd rfl (.inl rfl) (pe_lst pa_nil))
      (pss_cons (ps_set (i := 4) scShapeFrom.nd rfl (.inr rfl) (pv 1))
      (pss_cons (ps_setLc (i := 6) (own := [("place", 8), ("count", 5)]) (g := gTup K 2 (gCons (gName 8) (gCons (gName 5) gNil))) (by rfl) scShapeFrom.nd rfl rfl (sw_true rfl rfl rfl (by decide +kernel))
          (pi_enumT (by rfl) G.enumerate (pa_cons (pe_call GC hr (by rfl) FC.mg FC.fn.kp FC.bd .nil pass0 (pa_cons (pv 0) (pa_cons (pe_op op_sub (pv 2) (pv 1)) pa_nil))) pa_nil))
          (blkOk_by (own := [("place", 8), ("count", 5)]) (N := ["keep", "first", "laid", "some", "row", "count", "sizes", "size", "place"]) (sc := defScope sShapeFrom) (by decide +kernel))
          (fun _ _ _ _ _ => pg_tup rfl (pgs_cons (pg_name (i := 8) scShapeFrom.nd rfl (.inl rfl)) (pgs_cons (pg_name (i := 5) scShapeFrom.nd rfl (.inl rfl)) pgs_nil)))
          (fun _ _ _ _ _ => pts_nil) (fun _ _ _ _ _ => pe_tup (pa_cons (pe_op op_shl pe_int (pv 8)) (pa_cons (pv 5) pa_nil))))
      (pss_cons (ps_for PassesOwn.never rfl (pi_reversed (by rfl) G.reversed (pa_cons (pv 6) pa_nil)) (pg_tup rfl (pgs_cons (pg_name (i := 7) scShapeFrom.nd rfl (.inr rfl)) (pgs_cons (pg_name (i := 5) scShapeFrom.nd rfl (.inl rfl)) pgs_nil)))
        (pss_cons (ps_expr (pe_bm PySem.F.plainAttrs_list PySem.F.slot_list_extend PySem.F.type_list_extend mt_extend (pv 3) (pa_cons
            (pe_lc (own := [("place", 8)]) (by rfl) scShapeFrom.nd (pi_range1 (by rfl) G.range (pa_cons (pv 5) pa_nil))
              (blkOk_by (own := [("place", 8)]) (N := ["keep", "first", "laid", "some", "row", "count", "sizes", "size", "place"]) (sc := defScope sShapeFrom) (by decide +kernel))
              (fun _ _ _ _ _ => pg_name (i := 8) scShapeFrom.nd rfl (.inl rfl)) (fun _ _ _ _ _ => pts_nil)
              (fun _ _ _ _ _ => pe_tup (pa_cons (pe_op op_add (pv 4) (pe_op op_mul (pv 7) (pv 8))) (pa_cons (pv 7) pa_nil)))) pa_nil)))
        (pss_one (ps_aug (i := 4) scShapeFrom.nd rfl (.inr rfl) (pe_op op_mul (pv 7) (pv 5)) ip_add))))
      (pss_one (ps_ret (pe_callTy call_tuple_of (by rfl) G.tuple (by decide +kernel) (pa_cons (pv 3) pa_nil))))))), ?_⟩
    generalize hcs : Sh.counts k (l - f) = cs
    have hlen : cs.length ≤ 10000 := by
      rw [← hcs]
      have := Sh.counts_len k h2 (l - f)
      omega
    have hle : ∀ i, cs.getD i 0 ≤ 8 := fun i => by
      rw [← hcs]
      have := Sh.counts_le h2 (l - f) i
      omega
    have htot : ∀ i, Sh.tot (cs.drop i) (2 ^ i) ≤ 10000 := fun i => by
      have a := Sh.tot_drop cs i
      rw [← hcs, Sh.counts_tot h2] at a
      rw [← hcs]
      omega
    -- some = [], row = first
    refine q_asgL (xs := []) (el_lst ea_nil (by decide)) fun p H1 hp e1 h1 => ?_
    refine q_asg (v := .int f) (ev_var rfl) fun H2 e2 => ?_
    -- sizes = [..]
    have ec : EvU (tCall (spT pCounts) [] E0 (tCons (tVar 0) (tCons (tOp (rI0 fun i j => .int (i - j)) (tVar 2) (tVar 1)) tNil)))
        [some (.int k), some (.int f), some (.int l), some (.ref p), some (.int f), none, none, none, none] H2 (natsV cs) :=
      eu_call (pre := pCounts) (vs := [.int k, .int ((l : Int) - (f : Int))]) (K := K) (ea_cons (ev_var rfl) (ea_cons (ev_op (ev_var rfl) (ev_var rfl) rv_I0) ea_nil))
        (fun Hx _ => ⟨k, l - f, by rw [show ((l - f : Nat) : Int) = (l : Int) - (f : Int) by omega]; rfl, h2, h8, by omega, by rw [hcs]⟩)
    refine ec H2 (Ex.refl H2) _ fun c H3 hc e3 h3 => ?_
    refine ⟨c, natsV cs, rfl, SqT.of h3, fun D hD => ?_⟩
    have hncs : (natsV cs).length = cs.length := by unfold natsV; rw [List.length_map]
    refine lc_gen (walk_enumT (K := K) (a := c) (xs := natsV cs)) (fun i H acc => PrT H ((szs cs).take i) acc) (by rw [hncs]; omega) hD (fun i H xs ys acc h r => r.upd h) .nil (fun H e => SqT.of (e c _ h3)) ?_ ?_
    · intro i x Ha Hb acc hi ex y hR Qy Qn hy hn
      obtain ⟨T, a, b, rfl, hT, rfl, ha, hb⟩ := y
      rw [hncs] at hi
      have ea : a = .int (i : Nat) := (Option.some.inj ha).symm
      have eb : b = .int (cs.getD i 0 : Nat) := by
        have q : (natsV cs)[i]? = some b := hb
        unfold natsV at q
        rw [List.getElem?_map, List.getElem?_eq_getElem hi] at q
        rw [List.getD_eq_getElem?_getD, List.getElem?_eq_getElem hi]
        exact (Option.some.inj q).symm
      subst ea eb
      refine ⟨T, _, rfl, SqT.of upd_same, rfl, _, _, rfl, _, _, rfl, rfl, rfl, yes_then ?_⟩
      have pw : (1 : Int) * 2 ^ ((i : Nat) : Int).toNat = ((2 ^ i : Nat) : Int) := by
        rw [Int.toNat_natCast, Int.one_mul]
        exact (Int.natCast_pow 2 i).symm
      refine eu_tup (vs := [.int ((2 ^ i : Nat) : Int), .int (cs.getD i 0 : Nat)]) (ea_cons (ev_is (ev_op ev_c (ev_var (v := .int (i : Nat)) rfl) (rv_I ⟨by omega, by omega, by decide⟩)) (by rw [pw])) (ea_cons (ev_var rfl) ea_nil)) (by show 2 ≤ 100000; decide) _ (Ex.refl _) _ fun q H5 hq e5 h5 => ?_
      refine hy _ _ ((Ex.new hT).trans e5) ?_
      rw [List.take_add_one, szs_get hi]
      exact (hR.ex ((Ex.new hT).trans e5)).snoc h5
    · intro H4 refs e4 hDr hR
      rw [hncs, List.take_of_length_le (by unfold szs; rw [List.length_map, List.length_range]; exact Nat.le_refl _)] at hR
      have ex4 : Ex H H4 := ((e1.trans e2).trans e3).trans e4
      have hrl : refs.length = cs.length := by
        rw [← hR.len]
        unfold szs
        rw [List.length_map, List.length_range]
      have hp4 : H4 p = some (.lst []) := e4 p _ (e3 p _ (e2 p _ h1))
      have hD4 : H4 D = some (.lst refs) := hDr
      have npD : p ≠ D := fun z => by
        have q := e3 p _ (e2 p _ h1)
        rw [z, hD] at q
        cases q
      have D0 : H D = none := fresh_back ((e1.trans e2).trans e3) hD
      -- for size, count in reversed(sizes)
      refine ⟨.ref D, rfl, D, refs, rfl, SqL.of hD4, for_it (walk_rev (K := K) (a := D) (xs := refs)) (fun i σ' H' => ∃ (y5 y7 y8 : Option V) (acc : List V), σ' = [some (.int k), some (.int f), some (.int l), some (.ref p), some (.int ((f + Sh.tot (cs.drop (cs.length - i)) (2 ^ (cs.length - i)) : Nat) : Int)), y5, some (.ref D), y7, y8] ∧
          Ex H H' ∧ H' D = some (.lst refs) ∧ PrT H' (szs cs) refs ∧ H' p = some (.lst acc) ∧ PrT H' (Sh.sh f (cs.drop (cs.length - i)) (2 ^ (cs.length - i))) acc) ?_ (fun i σ' H' _ ⟨_, _, _, _, _, _, h, _⟩ => SqL.of h) ?_ ?_⟩
      · refine ⟨none, none, none, [], ?_, ex4, hD4, hR, hp4, ?_⟩
        · rw [Nat.sub_zero, List.drop_length]
          rfl
        · rw [Nat.sub_zero, List.drop_length]
          exact .nil
      · intro i x σ' Ha Hb hi hPv hy
        obtain ⟨y5, y7, y8, acc, rfl, exA, hDA, hRA, hpA, hSA⟩ := hPv
        obtain ⟨rfl, hx⟩ := hy
        rw [hrl] at hi hx
        obtain ⟨j, hj, hij⟩ : ∃ j, j < cs.length ∧ cs.length - i = j + 1 := ⟨cs.length - 1 - i, by omega, by omega⟩
        have ej : cs.length - 1 - i = j := by omega
        have ej2 : cs.length - (i + 1) = j := by omega
        rw [ej] at hx
        rw [hij] at hSA
        obtain ⟨pr, hpr, b, rfl, hb⟩ := Paired.at hRA hx
        rw [szs_get hj] at hpr
        have hpe : pr = (2 ^ j, cs.getD j 0) := (Option.some.inj hpr).symm
        subst hpe
        have hc8 := hle j
        have t1 := htot (j + 1)
        have tj : Sh.tot (cs.drop j) (2 ^ j) = Sh.tot (cs.drop (j + 1)) (2 ^ (j + 1)) + 2 ^ j * cs.getD j 0 := by
          rw [drop_cons hj, Nat.pow_succ, Nat.mul_comm (2 ^ j) 2]
          rfl
        have sj : Sh.sh f (cs.drop j) (2 ^ j) = Sh.sh f (cs.drop (j + 1)) (2 ^ (j + 1)) ++ (List.range (cs.getD j 0)).map fun q => (f + Sh.tot (cs.drop (j + 1)) (2 ^ (j + 1)) + 2 ^ j * q, 2 ^ j) := by
          rw [drop_cons hj, Nat.pow_succ, Nat.mul_comm (2 ^ j) 2]
          rfl
        have hacc : acc.length ≤ 10000 := by
          rw [← hSA.len]
          exact Nat.le_trans (Sh.sh_len _ _ _ (Nat.two_pow_pos _)) t1
        rw [hij]
        refine ⟨b, _, rfl, SqT.of hb, rfl, _, _, rfl, _, _, rfl, rfl, ?_⟩
        -- some.extend([..])
        refine ⟨.ref p, rfl, .inl ⟨rfl, acc, SqL.of hpA⟩, .int (cs.getD j 0 : Nat), rfl, (cs.getD j 0 : Nat), rfl, by omega, by omega, fun D2 hD2 => ?_⟩
        refine lc_gen walk_range (fun i H acc2 => PrT H ((List.range i).map fun q => (f + Sh.tot (cs.drop (j + 1)) (2 ^ (j + 1)) + 2 ^ j * q, 2 ^ j)) acc2) (by rw [Int.toNat_natCast]; omega) hD2 (fun i H xs ys acc h r => r.upd h) .nil (fun _ _ => True.intro) ?_ ?_
        · intro q x Hc Hd acc2 hq ex2 y hR2 Qy Qn hy hn
          obtain ⟨rfl, rfl⟩ := y
          have hq2 : q < cs.getD j 0 := by
            rw [Int.toNat_natCast] at hq
            exact hq
          refine ⟨rfl, yes_then ?_⟩
          refine eu_tup (vs := [.int ((f + Sh.tot (cs.drop (j + 1)) (2 ^ (j + 1)) + 2 ^ j * q : Nat) : Int), .int ((2 ^ j : Nat) : Int)])
            (ea_cons (ev_is (ev_op (ev_var rfl) (ev_op (ev_var rfl) (ev_var rfl) (rv_I (.inr ⟨by omega, by omega⟩))) rv_I0) ?_) (ea_cons (ev_var rfl) ea_nil)) (by show 2 ≤ 100000; decide) _ (Ex.refl _) _ fun T H5 hT e5 h5 => ?_
          · show V.int _ = V.int _
            congr 1
            simp only [Int.natCast_add, Int.natCast_mul, Int.zero_add]
          · refine hy _ _ e5 ?_
            rw [List.range_succ, List.map_append]
            exact (hR2.ex e5).snoc h5
        · intro H5 acc2 e5 hD5 hR2
          have hc : ((cs.getD j 0 : Nat) : Int).toNat = cs.getD j 0 := Int.toNat_natCast _
          rw [hc] at hR2
          have hl2 : acc2.length = cs.getD j 0 := by
            rw [← hR2.len, List.length_map, List.length_range]
          have hp5 : H5 p = some (.lst acc) := e5 p _ hpA
          refine ⟨p, D2, acc, acc2, rfl, rfl, hp5, hD5, Nat.le_trans (show acc.length + acc2.length ≤ 20000 by omega) (by decide), ?_⟩
          have p0 : H p = none := hp
          refine s_aug (f := fun i j => i + j) (a := ((f + Sh.tot (cs.drop (j + 1)) (2 ^ (j + 1)) : Nat) : Int)) (b := ((2 ^ j : Nat) : Int) * ((cs.getD j 0 : Nat) : Int)) rfl (ev_op (ev_var rfl) (ev_var rfl) (rv_I (.inr ⟨by omega, by omega⟩))) fun H6 e6 => ?_
          have nDp : D ≠ p := Ne.symm npD
          refine ⟨some (.int (cs.getD j 0 : Nat)), some (.int ((2 ^ j : Nat) : Int)), y8, acc ++ acc2, ?_, (Ex.mut (exA.trans e5) p0).trans e6, ?_, ?_, e6 p _ upd_same, ?_⟩
          · rw [ej2, tj]
            have e9 : ((f + (Sh.tot (cs.drop (j + 1)) (2 ^ (j + 1)) + 2 ^ j * cs.getD j 0) : Nat) : Int) = ((f + Sh.tot (cs.drop (j + 1)) (2 ^ (j + 1)) : Nat) : Int) + ((2 ^ j : Nat) : Int) * ((cs.getD j 0 : Nat) : Int) := by
              simp only [Int.natCast_add, Int.natCast_mul]
              omega
            rw [e9]
            rfl
          · refine e6 D _ ?_
            rw [upd_ne nDp]
            exact e5 D _ hDA
          · exact ((hRA.ex e5).upd hp5).ex e6
          · rw [ej2, sj]
            exact Paired.app (((hSA.ex e5).upd hp5).ex e6) ((hR2.upd hp5).ex e6)
      · intro σ' Hz hPv
        obtain ⟨y5, y7, y8, acc, rfl, exZ, hDZ, hRZ, hpZ, hSZ⟩ := hPv
        rw [hrl, Nat.sub_self] at hSZ
        refine ⟨.ref p, rfl, p, acc, rfl, .inl ⟨SqL.of hpZ, fun q hq => ?_⟩⟩
        refine kk q acc _ (fresh_back exZ hq) (exZ.trans (Ex.new hq)) upd_same ?_
        have e : Sh.shp k f l = Sh.sh f (cs.drop 0) (2 ^ 0) := by
          unfold Sh.shp
          rw [hcs]
          rfl
        rw [e]
        exact hSZ.ex (Ex.new hq)
end
end K09
namespace K09
open PySem PySem.Spec PyProof.Rows L2 GxR Pu Evl
theorem scFirstOf : FnScope ["some", "laid"] ["some", "laid"] (defScope sFirstOf) := ⟨rfl, rfl, rfl, by decide +kernel, rfl, by decide +kernel, by decide +kernel⟩
structure Base (P : Program) (w : World) (K : PySem.W.Frag) (mg : Str → Option Value) (base : Heap) (fNN fNK fSF : Addr) (dNN dNK dSF : FuncData) : Prop where
  nn : FnOk P w K mg base CX0 3 fNN dNN ["value"] (spV pNat)
  nk : FnOk P w K mg base CX0 3 fNK dNK ["keep"] (spV pKeep)
  sf : FnOk P w K mg base CX0 5 fSF dSF ["keep", "first", "laid"] (spSh pShape)
section
variable {P : Program} {w : World} {K : PySem.W.Frag} {mg : Str → Option Value} {base : Heap}
variable {fInt fNum fSeq fPar fNN fIK fNK fCO fSF fNR fSh fSt fIS fFO fLS fLG fSA fFB : Addr} {dInt dNum dSeq dPar dNN dIK dNK dCO dSF dNR dSh dSt dIS dFO dLS dLG dSA dFB : FuncData}
def pFirst (K : PySem.W.Frag) : List V → Hp → V → Prop := fun vs H v => ∃ (L : List (Nat × Nat)) (l : Nat) (x : V), vs = [x, .int l] ∧ ShIn K H L x ∧ L.length ≤ 10000 ∧ v = .int (Sh.firstOf L l : Nat)
theorem ok_first_of {f : Addr} {fd : FuncData} (G : Mg mg) (F : Fun K "first_of" "first_of" sFirstOf f fd) : FnOk P w K mg base CX0 1 f fd ["some", "laid"] (spV (pFirst K)) := by
  refine F.ok scFirstOf (fun vs H Q E h => ?_) (fun cdv A outer s H vs Q E hr h => ?_)
  · obtain ⟨v, ⟨L, l, x, rfl, _⟩, _⟩ := h
    rfl
  · obtain ⟨v, ⟨L, l, x, rfl, ⟨a, xs, rfl, hq, hp⟩, hz, rfl⟩, kk⟩ := h
    refine ⟨_, pss_one (ps_ret (pe_ifExp (pt_cmpR op_gt (pe_callB call_len (by rfl) G.len boot_len (pa_cons (pv 0) pa_nil)) pe_int (nomark _)) (pe_ix ix_seq (pe_ix ix_seq (pv 0) pe_int (fun _ _ => rfl)) pe_int (fun _ _ => rfl)) (pv 1))), ?_⟩
    have hl : L.length = xs.length := Paired.length hp
    refine ⟨.ref a, rfl, .ref a, xs.length, rfl, hq.elim (fun q => .inr ⟨xs, q, rfl⟩) (fun q => .inl ⟨xs, q, rfl⟩), (xs.length : Int), 0, rfl, rfl, _, rfl, ?_⟩
    cases hp with
    | nil =>
      refine (ite2 (fun z => ?_) fun _ => ⟨_, rfl, kk H (Ex.refl H)⟩)
      exact absurd z (by simp)
    | @cons p v L xs r t =>
      obtain ⟨b, rfl, hb⟩ := r
      refine (ite2 (fun _ => ?_) fun z => ?_)
      · have i0 : atI (V.ref b :: xs) ((0 : Nat) : Int) = some (V.ref b) := atI_nat rfl
        have i1 : atI [V.int (p.1 : Nat), V.int (p.2 : Nat)] ((0 : Nat) : Int) = some (V.int (p.1 : Nat)) := atI_nat rfl
        have fin : rIx K (V.ref b) (V.int 0) H fun v H' => Q v H' := by
          rcases hb with q | q
          · exact .inr (.inl ⟨b, _, 0, _, rfl, rfl, q, i1, kk H (Ex.refl H)⟩)
          · exact .inl ⟨b, _, 0, _, rfl, rfl, q, i1, kk H (Ex.refl H)⟩
        rcases hq with q | q
        · exact ⟨.ref a, rfl, .inr (.inl ⟨a, _, 0, _, rfl, rfl, q, i0, fin⟩)⟩
        · exact ⟨.ref a, rfl, .inl ⟨a, _, 0, _, rfl, rfl, q, i0, fin⟩⟩
      · exact absurd (decide_eq_true (show (0 : Int) < (((V.ref b :: xs).length : Nat) : Int) by rw [List.length_cons]; omega)) z
def hasRow (r : Nat) (p : Nat × Nat) : Bool := decide (p.1 ≤ r) && decide (r < p.1 + p.2)
end
theorem scIsShape : FnScope ["keep", "laid", "value", "some", "first", "stretch"] ["keep", "laid", "value"] (defScope sIsShape) := ⟨rfl, rfl, rfl, by decide +kernel, rfl, by decide +kernel, by decide +kernel⟩
def spIsShape (K : PySem.W.Frag) (T : Addr) : Sp := fun vs H Q _ => ∃ (k f l : Nat) (x : V), vs = [.int k, .int l, x] ∧ 2 ≤ k ∧ k ≤ 8 ∧ f ≤ l ∧ l ≤ 10000 ∧ ShIn K H (Sh.shp k f l) x ∧ TabG H T ∧ ∀ H', ExT T H H' → Q (.bl true) H'
section
variable {P : Program} {w : World} {K : PySem.W.Frag} {mg : Str → Option Value} {base : Heap} {T c : Addr}
variable {fInt fNum fSeq fPar fNN fIK fNK fCO fSF fNR fSh fSt fIS fFO fLS fLG fSA fFB : Addr} {dInt dNum dSeq dPar dNN dIK dNK dCO dSF dNR dSh dSt dIS dFO dLS dLG dSA dFB : FuncData}
theorem all_true (n : Nat) : (List.range n).all (fun _ => true) = true := by simp
theorem ok_is_shape {f : Addr} {fd : FuncData} (M : L2.Mod K mg base) (G : Mg mg) (F : FunC K "is_shape" "is_shape" sIsShape f fd c) (TB : TabB base mg c T) (B : Base P w K mg base fNN fNK fSF dNN dNK dSF)
    (F1 : Fns K mg "need_keep" ["keep"] sNeedKeep fNK dNK) (F2 : Fns K mg "need_number" ["value"] sNeedNumber fNN dNN) (F3 : Fns K mg "shape_from" ["keep", "first", "laid"] sShapeFrom fSF dSF)
    (F4 : Fns K mg "is_sequence" ["value"] sIsSequence fSeq dSeq) (F5 : Fns K mg "is_stretch" ["value"] sIsStretch fSt dSt) (G5 : PF P w K mg base 3 fSt dSt ["value"] pStretch) (F6 : Fns K mg "first_of" ["some", "laid"] sFirstOf fFO dFO) (G6 : FnOk P w K mg base CX0 1 fFO dFO ["some", "laid"] (spV (pFirst K))) :
    FnOk P w K mg base CX0 6 f fd ["keep", "laid", "value"] (spIsShape K T) := by
  have G4 : FnOk P w K mg base CX0 1 fSeq dSeq ["value"] (spPure P w base ["value"] pSequence) := (pf_is_sequence M G F4.fn).ok
  refine F.ok scIsShape (fun vs H Q E h => ?_) (fun A outer s H vs Q E hr h => ?_)
  · obtain ⟨k, f, l, x, rfl, _⟩ := h
    rfl
  · obtain ⟨k, f, l, x, rfl, h2, h8, hfl, hl, ⟨a, xs, rfl, hq, hp⟩, ht, kk⟩ := h
    have hu : A.units + 3 + 64 < cLine := hr.units
    refine ⟨_, pss_cons (ps_expr (pe_call B.nk (hr.mono (by decide)) (by rfl) F1.mg F1.fn.kp F1.bd .nil pass0 (pa_cons (pv 0) pa_nil)))
      (pss_cons (ps_expr (pe_call B.nn (hr.mono (by decide)) (by rfl) F2.mg F2.fn.kp F2.bd .nil pass0 (pa_cons (pv 1) pa_nil)))
      (pss_cons (ps_if (PW.pt (pw_or (pt_not (pt_val (pe_call G4 (hr.mono (by decide)) (by rfl) F4.mg F4.fn.kp F4.bd .nil pass0 (pa_cons (pv 2) pa_nil))))
          (pw_or1 (pt_not (pt_val (pe_allQ (k := 3) (T := T) (c := c) (hr.mono (by decide)) (by rfl) G.all TB rfl (GenS.of rfl rfl (by decide +kernel) rfl rfl (by decide +kernel)) (pv 2)))))))
        (pss_one (ps_ret pe_bl)) pss_nil)
      (pss_cons (ps_set (i := 3) scIsShape.nd rfl (.inl rfl) (pe_callTy call_tuple_of (by rfl) G.tuple (by decide +kernel) (pa_cons
          (pe_lc (own := [("stretch", 5)]) (te := tCB (rTupleOf K) (tCons (tVar 5) tNil)) (by rfl) scIsShape.nd (pi_seq (pv 2))
            (blkOk_by (own := [("stretch", 5)]) (N := ["keep", "laid", "value", "some", "first", "stretch"]) (sc := defScope sIsShape) (by decide +kernel))
            (fun _ _ _ _ _ => pg_name (i := 5) scIsShape.nd rfl (.inl rfl)) (fun _ _ _ _ _ => pts_nil)
            (fun _ _ _ _ _ => pe_callTy (T := "tuple") call_tuple_of (by rfl) G.tuple (by decide +kernel) (pa_cons (pv 5) pa_nil))) pa_nil)))
      (pss_cons (ps_set (i := 4) scIsShape.nd rfl (.inl rfl) (pe_call G6 (hr.mono (by decide)) (by rfl) F6.mg F6.fn.kp F6.bd .nil pass0 (pa_cons (pv 3) (pa_cons (pv 1) pa_nil))))
      (pss_one (ps_ret (pe_and (pe_cmpR op_le (pv 4) (pv 1) (nomark _)) (pe_one (pe_cmpR (op_eqD hu) (pv 3) (pe_call B.sf hr (by rfl) F3.mg F3.fn.kp F3.bd .nil pass0 (pa_cons (pv 0) (pa_cons (pv 4) (pa_cons (pv 1) pa_nil)))) (nomark _)))))))))), ?_⟩
    have hlen : (Sh.shp k f l).length = xs.length := Paired.length hp
    have hzl : (Sh.shp k f l).length ≤ 10000 := Nat.le_trans (Sh.shp_len h2) (by omega)
    refine q_drop (v := .non) (ev_call (ea_cons (ev_var rfl) ea_nil) (spV.use fun H1 _ => ⟨k, rfl, by omega, by omega, rfl⟩)) fun H1 e1 => ?_
    refine q_drop (v := .non) (ev_call (ea_cons (ev_var rfl) ea_nil) (spV.use fun H1 _ => ⟨l, rfl, by omega, rfl⟩)) fun H2 e2 => ?_
    have hq2 : SqE K H2 a xs := (hq.ex e1).ex e2
    have hp2 : PrIn K H2 (Sh.shp k f l) xs := (hp.ex e1).ex e2
    have ht2 : TabG H2 T := TabG.ex (TabG.ex ht e1) e2
    have t1 : EvT (tNot (tB (tCall (spPure P w base ["value"] pSequence) [] E0 (tCons (tVar 2) tNil)))) (start ["keep", "laid", "value", "some", "first", "stretch"] [.int k, .int l, .ref a]) H2 (!true) :=
      et_not (et_B (ev_call (ea_cons (ev_var rfl) ea_nil) (spPure.use rfl fun H1 e h ok bx => by
        obtain ⟨bb, its, rv, sq⟩ := TyG.of_sq ok (M.kin.keeps bx) (hq2.ex e)
        exact ⟨_, _, rfl, TyG.seq sq, by cases bb <;> rfl⟩)))
    refine q_ifOrF t1 fun H3 e3 => ?_
    have hq3 := hq2.ex e3
    have hp3 := hp2.ex e3
    have ht3 := TabG.ex ht2 e3
    refine ⟨.ref a, rfl, a, xs, fun _ => true, rfl, hq3, ht3, ?_, fun H4 t4 => ?_⟩
    · intro B' cenv g i v u hrm hs hg hb hx hn hi rv ok
      obtain ⟨m, ns, hm⟩ := hn
      have FR : FrP K mg base B' cenv g := ⟨M, hx, by rw [hs], hg, hb, hrm.hd⟩
      obtain ⟨p, hp1, b, rfl, hb1⟩ := Paired.at hp3 hi
      obtain ⟨bb, its, rvs, sq⟩ := seq_at ht3 ok (M.kin.keeps hx) hb1
      obtain ⟨u0, u1, rfl, r0, r1⟩ := vals2 rvs
      have st : StG g (.ref b) (isNum (.int (p.1 : Nat)) && isNum (.int (p.2 : Nat))) := .two sq r0 r1 (.int _) (.int _)
      have st2 : StG g (.ref b) true := by
        have z : (isNum (.int (p.1 : Nat)) && isNum (.int (p.2 : Nat))) = true := by
          rw [show isNum (.int (p.1 : Nat)) = decide (((p.1 : Nat) : Int) ≥ 0) from rfl, show isNum (.int (p.2 : Nat)) = decide (((p.2 : Nat) : Int) ≥ 0) from rfl, decide_eq_true (by omega), decide_eq_true (by omega)]
          rfl
        rw [← z]
        exact st
      have val : ∀ {pos : Pos}, EV P w B' cenv g (.Name "stretch" pos) (.ref b) := ev_loc FR (by show cenv.scope.names.lookup _ = _; rw [hs]; rfl) ns hm rv
      exact ev_pf FR G5 hrm (by show cenv.scope.names.lookup _ = _; rw [hs]; rfl) F5.mg F5.fn.kp F5.bd (ea_cons val ea_nil) rfl fun h e => ⟨_, _, rfl, st2.mono e, rfl⟩
    refine ⟨_, rfl, ite2 (fun z => absurd z (by rw [all_true]; decide)) fun _ => ?_⟩
    have x34 : ExT T H3 H4 := ExT.of_tab t4
    have hq4 := hq3.exT ht3 x34
    have hp4 := hp3.exT ht3 x34
    have x4 : ExT T H H4 := ExT.ex' ((e1.trans e2).trans e3) x34
    refine ⟨.ref a, rfl, a, xs, rfl, hq4, fun J Gd wk hG D hD => ?_⟩
    refine lc_gen wk (fun i H acc => PrS K H ((Sh.shp k f l).take i) acc) (by omega) hD (fun i H xs ys acc h r => PrS.upd r h) .nil hG ?_ ?_
    · intro i x Ha Hb acc hi ex y hR Qy Qn hy hn
      obtain ⟨rfl, hx⟩ := y
      obtain ⟨p, hpL, b, rfl, hb⟩ := Paired.at hp4 hx
      have tk : (Sh.shp k f l).take (i + 1) = (Sh.shp k f l).take i ++ [p] := by rw [List.take_add_one, hpL]; rfl
      refine ⟨rfl, yes_then ⟨.ref b, rfl, b, [.int (p.1 : Nat), .int (p.2 : Nat)], rfl, ?_⟩⟩
      rcases hb with q | q
      · refine .inr ⟨ex_t ex q, hy _ _ (Ex.refl _) ?_⟩
        rw [tk]
        exact hR.snoc (ex_t ex q)
      · refine .inl ⟨ex_l ex q, fun r hr => hy _ _ (Ex.new hr) ?_⟩
        rw [tk]
        exact (hR.ex (Ex.new hr)).snoc (SqT.of upd_same)
    · intro H5 acc e5 hD5 hR
      rw [hlen.symm, List.take_length] at hR
      refine ⟨D, acc, rfl, .inl ⟨SqL.of hD5, fun q hq => ?_⟩⟩
      have hR6 := hR.ex (Ex.new (p := q) (o := .tup acc) hq)
      have sq6 : SqT K (upd H5 q (.tup acc)) q acc := SqT.of upd_same
      have x6 : ExT T H (upd H5 q (.tup acc)) := x4.ex (e5.trans (Ex.new hq))
      refine ⟨_, rfl, _, rfl, .int (f : Nat), ⟨Sh.shp k f l, l, .ref q, rfl, ⟨q, acc, rfl, .inl sq6, hR6.in⟩, hzl, by rw [Sh.firstOf_sh h2 hfl]⟩, fun H6 e6 => ?_⟩
      refine ⟨.int (f : Nat), rfl, .int (l : Nat), rfl, f, l, rfl, rfl, decide ((f : Int) ≤ (l : Int)), rfl, ite2 (fun _ => ?_) fun z => absurd (decide_eq_true (by omega)) z⟩
      refine ⟨.ref q, rfl, _, rfl, _, rfl, _, rfl, Sh.shp k f l, ⟨k, f, l, rfl, h2, h8, hfl, hl, rfl⟩, fun p ys H7 hp7 e7 h7 hP => ?_⟩
      refine ⟨dShape (Sh.shp k f l), dShape (Sh.shp k f l), dpShape (ex_t (e6.trans e7) sq6) (hR6.ex (e6.trans e7)), dpShape (SqT.of h7) hP.s, shape_shaped _, shape_shaped _, ?_⟩
      rw [shape_eqv]
      exact kk H7 (x6.ex (e6.trans e7))
end
end K09
set_option Elab.async false
set_option linter.all false
set_option maxRecDepth 100000
set_option maxHeartbeats 4000000
/-! Pure defs of several statements. -/
namespace Pu
open PySem PySem.Spec PyProof.Rows L2
/-- from any heap over g the expression gives what R tells, and what stood stays -/
def EVR (P : Program) (w : World) (A : Around) (env : Env) (g : Heap) (e : Expr) (R : Value → Heap → Prop) : Prop :=
  ∀ (s : Shared) (Q : Value → Shared → Prop) (E : Value → Shared → Prop), Ext g s.heap →
    (∀ u h' tk, R u h' → Ext s.heap h' → Q u { s with heap := h', toks := tk }) → wpAny (model P w) A (eval e env) Q E s
/-- a test -/
def EVT (P : Program) (w : World) (A : Around) (env : Env) (g : Heap) (e : Expr) (b : Bool) : Prop :=
  ∀ (s : Shared) (whole : Sem Value) (Q : Bool → Shared → Prop) (E : Value → Shared → Prop), whole = eval e env → Ext g s.heap →
    (∀ h' tk, Ext s.heap h' → Q b { s with heap := h', toks := tk }) → wpAny (model P w) A (isTrue e env whole) Q E s
/-- what is known stays, whatever the locals' own object becomes -/
def St (env : Env) (W : Heap → Prop) : Prop := ∀ h h', W h → (∀ b o, b ≠ env.locals → h.get? b = some o → h'.get? b = some o) → W h'
/-- statements; m the locals; W what is known of the heap -/
def ES (P : Program) (w : World) (A : Around) (env : Env) (W : Heap → Prop) (m : Str → Option Value) (l : List Stmt) (R : Value → Heap → Prop) : Prop :=
  ∀ (s : Shared) (Q : Flow → Shared → Prop) (E : Value → Shared → Prop), W s.heap → s.heap.Ns env.locals m →
    (∀ u h' tk, R u h' → W h' → Q (.ret u) { s with heap := h', toks := tk }) → wpAny (model P w) A (execs l env) Q E s
/-- targets -/
def EU (P : Program) (w : World) (A : Around) (env : Env) (W : Heap → Prop) (m : Str → Option Value) (es : List Expr) (its : List Value) (m' : Str → Option Value) : Prop :=
  ∀ (s : Shared) (Q : Unit → Shared → Prop) (E : Value → Shared → Prop), W s.heap → s.heap.Ns env.locals m →
    (∀ h' tk, W h' → h'.Ns env.locals m' → Q () { s with heap := h', toks := tk }) → wpAny (model P w) A (assignInOrder ((assignEach es env).map (·.2)) its) Q E s
/-- m with x told -/
def put (m : Str → Option Value) (x : Str) (u : Value) : Str → Option Value := fun y => if y = x then some u else m y
theorem put_eq {m : Str → Option Value} {x : Str} {u : Value} : put m x u x = some u := if_pos rfl
theorem put_ne {m : Str → Option Value} {x y : Str} {u v : Value} (h : m y = some v) (n : y ≠ x) : put m x u y = some v := (if_neg n).trans h
section
variable {P : Program} {w : World} {K : PySem.W.Frag} {mg : Str → Option Value} {base : Heap} {A : Around} {env : Env} {g : Heap} {m : Str → Option Value} {R : Value → Heap → Prop} {W : Heap → Prop}
theorem EV.r {e : Expr} {v : V} (h : EV P w A env g e v) : EVR P w A env g e (fun u _ => RelV v u) := h
theorem et_val {e : Expr} {b : Bool} (h : EV P w A env g e (.bl b)) (he : ∀ whole, isTrue e env whole = (do let v ← whole; standAt e.pos; holding [v] (truthy v)) := by intro _; rfl) : EVT P w A env g e b := fun s whole Q E hw hx hQ => by
  subst hw
  refine wpAny_isTrue_value (h s _ E hx fun u h' tk r hk => ?_) (he _)
  cases (show u = Value.bool b from r)
  exact wpAny_truthy_bool (hQ h' tk hk)
theorem et_not {e : Expr} {pos : Pos} {b : Bool} (h : EVT P w A env g e b) : EVT P w A env g (.UnaryOp .Not e pos) (!b) := fun s whole Q E hw hx hQ =>
  wpAny_isTrue_Not (h s _ _ E rfl hx fun h' tk hk => hQ h' tk hk)
theorem et_or1 {e : Expr} {pos : Pos} {b : Bool} (h : EVT P w A env g e b) : EVT P w A env g (.BoolOp .Or [e] pos) b := fun s whole Q E hw hx hQ => by
  refine wpAny_isTrue_BoolOp (wpAny_allTrue_Or_cons (h s _ _ E rfl hx fun h' tk hk => ?_))
  cases b with
  | true => exact hQ h' tk hk
  | false => exact wpAny_allTrue_Or_nil (hQ h' tk hk)
theorem et_or {a b : Expr} {rest : List Expr} {pos : Pos} {x y : Bool} (ha : EVT P w A env g a x) (hb : x = false → EVT P w A env g (.BoolOp .Or (b :: rest) pos) y) : EVT P w A env g (.BoolOp .Or (a :: b :: rest) pos) (x || y) := fun s whole Q E hw hx hQ => by
  refine wpAny_isTrue_BoolOp (wpAny_allTrue_Or_cons (ha s _ _ E rfl hx fun h' tk hk => ?_))
  cases x with
  | true => exact hQ h' tk hk
  | false =>
    have := hb rfl { s with heap := h', toks := tk } (eval (.BoolOp .Or (b :: rest) pos) env) Q E rfl (fun b o e => hk b o (hx b o e)) fun h2 t2 k2 => hQ h2 t2 fun b o e => k2 b o (hk b o e)
    rw [arm_isTrue_BoolOp] at this
    exact this
theorem et_cmpI {op : CmpOp} {a b : Expr} {pos : Pos} {i j : Int} {r : Bool} (ha : EV P w A env g a (.int i)) (hb : EV P w A env g b (.int j))
    (hc : ∀ (s : Shared) (t t' : Nat) (Q : Value → Shared → Prop) (E : Value → Shared → Prop), Q (.bool r) s → wpAny (model P w) A (compareOp op (.int i t) (.int j t')) Q E s)
    (hm : behindInMarks op b = false := by first | exact nobehind _ (by decide) (by decide) | rfl) : EVT P w A env g (.Compare a [op] [b] pos) r := fun s whole Q E hw hx hQ => by
  refine wpAny_isTrue_Compare1 (ha s _ E hx fun u h' tk ru hk => ?_) hm
  refine hb { s with heap := h', toks := tk } _ E (fun b o e => hk b o (hx b o e)) fun u2 h2 t2 r2 k2 => ?_
  obtain ⟨t, rfl⟩ := ru
  obtain ⟨t', rfl⟩ := r2
  exact hc _ _ _ _ _ (wpAny_truthy_bool (hQ h2 t2 fun b o e => k2 b o (hk b o e)))
theorem St.ex (S : St env W) {h h' : Heap} (x : W h) (k : Ext h h') : W h' := S h h' x fun b o _ e => k b o e
theorem St.over (hL : g.get? env.locals = none) : St env (fun h => Ext g h) := fun h h' x k b o e => k b o (fun z => by rw [z, hL] at e; cases e) (x b o e)
theorem St.and {V : Heap → Prop} (S : St env W) (T : St env V) : St env (fun h => W h ∧ V h) := fun h h' x k => ⟨S h h' x.1 k, T h h' x.2 k⟩
theorem es_ret {e : Expr} {pos : Pos} (S : St env W) (h : ∀ h1, W h1 → h1.Ns env.locals m → EVR P w A env h1 e R) : ES P w A env W m [.Return (some e) pos] R := fun s Q E hx hn hQ =>
  wpAny_execs_cons (wpAny_Return_some (h s.heap hx hn s _ E (fun _ _ e => e) fun u h' tk r k => hQ u h' tk r (S.ex hx k)))
theorem es_if {test : Expr} {body rest : List Stmt} {pos : Pos} {b : Bool} (S : St env W) (ht : ∀ h1, W h1 → h1.Ns env.locals m → EVT P w A env h1 test b) (hY : b = true → ES P w A env W m body R) (hn : b = false → ES P w A env W m rest R) :
    ES P w A env W m (.If test body [] pos :: rest) R := fun s Q E hx hns hQ => by
  refine wpAny_execs_cons (wpAny_If (ht s.heap hx hns s _ _ E rfl (fun _ _ e => e) fun h' tk hk => ?_))
  have hn2 := hns.keeps hk
  cases b with
  | true => exact hY rfl { s with heap := h', toks := tk } _ E (S.ex hx hk) hn2 fun u h2 t2 r k => hQ u h2 t2 r k
  | false => exact wpAny_execs_nil (hn rfl { s with heap := h', toks := tk } Q E (S.ex hx hk) hn2 fun u h2 t2 r k => hQ u h2 t2 r k)
theorem es_set {x : Str} {e : Expr} {p pos : Pos} {rest : List Stmt} {R1 : Value → Heap → Prop} (S : St env W) (hl : env.kindOf x = some .local) (hk : env.scope.kind = .function)
    (he : ∀ h1, W h1 → h1.Ns env.locals m → EVR P w A env h1 e R1) (hR : ∀ u, St env (R1 u)) (hm : ∀ u, ES P w A env (fun h => W h ∧ R1 u h) (put m x u) rest R)
    (hsw : swapsWith e (some (.Name x p)) pos.line env = pure false := by rfl) : ES P w A env W m (.Assign [.Name x p] e pos :: rest) R := fun s Q E hx hn hQ => by
  refine wpAny_execs_cons (wpAny_Assign_Name (he s.heap hx hn s _ E (fun _ _ e => e) fun u h' tk r hk2 => ?_) hsw)
  refine wpAny_storeName_local hl (hn.keeps hk2) (fun h3 ns3 same => ?_) (by rw [hk]; rfl)
  have st : ∀ b o, b ≠ env.locals → h'.get? b = some o → h3.get? b = some o := fun b o hb e => same.extBut b o hb e
  exact hm u { s with heap := h3, toks := tk + 1 } Q E ⟨S _ _ (S.ex hx hk2) st, hR u _ _ r st⟩ ns3 fun u h2 t2 r k => hQ u h2 t2 r k.1
theorem eu_nil : EU P w A env W m [] [] m := fun s Q E hx hn hQ => wpAny_assignInOrder_none (hQ s.heap s.toks hx hn)
theorem eu_cons {x : Str} {p : Pos} {es : List Expr} {u : Value} {its : List Value} {m' : Str → Option Value} (S : St env W) (hl : env.kindOf x = some .local) (hk : env.scope.kind = .function)
    (h : EU P w A env W (put m x u) es its m') (he : (assignEach (.Name x p :: es) env).map (·.2) = assign (.Name x p) env :: (assignEach es env).map (·.2) := by rfl) : EU P w A env W m (.Name x p :: es) (u :: its) m' := fun s Q E hx hn hQ => by
  rw [he]
  refine wpAny_assignInOrder_more (wpAny_assign_Name (wpAny_storeName_local hl hn (fun h' ns' same => ?_) (by rw [hk]; rfl)))
  exact h { s with heap := h', toks := s.toks + 1 } Q E (S _ _ hx fun b o hb e => same.extBut b o hb e) ns' fun h2 t2 k n => hQ h2 t2 k n
theorem es_unpack {val : Expr} {es : List Expr} {k : Nat} {p pos : Pos} {rest : List Stmt} {a : Addr} {b : Bool} {its : List Value} {m' : Str → Option Value} (S : St env W) (hd : A.handled = none)
    (hv : ∀ h1, W h1 → h1.Ns env.locals m → EV P w A env h1 val (.ref a)) (hq : ∀ h1, W h1 → SeqG h1 b a its) (hu : EU P w A env W m es its m') (hr : ES P w A env W m' rest R)
    (hn : (assignEach es env).length = its.toArray.size) (hst : (assignEach es env).findIdx? (·.1) = none := by rfl)
    (hs : swapsWithSole [.Tuple es k p] val pos.line env = pure false := by rfl) (hw : swappedStores [.Tuple es k p] val env = pure none := by rfl)
    (h1 : (assignEach [.Tuple es k p] env).map (·.2) = [assign (.Tuple es k p) env] := by rfl) : ES P w A env W m (.Assign [.Tuple es k p] val pos :: rest) R := fun s Q E hx hns hQ => by
  refine wpAny_execs_cons (wpAny_Assign_stores (hv s.heap hx hns s _ E (fun _ _ e => e) fun u h' tk r hk => ?_) hs hw)
  cases (show u = Value.ref a from r)
  rw [h1]
  have main : wpAny (model P w) A (assign (.Tuple es k p) env (.ref a)) (fun _ s3 => wpAny (model P w) A (execs rest env) Q E s3) E { s with heap := h', toks := tk } := by
    have after : ∀ h3, Heap.ExtBut h'.objs.size h' h3 → wpAny (model P w) A (assignInOrder ((assignEach es env).map (·.2)) its.toArray.toList) (fun _ s3 => wpAny (model P w) A (execs rest env) Q E s3) E { s with heap := h3, toks := tk } := fun h3 hx3 => by
      have k3 : Ext h' h3 := fun b o e => hx3 b o (Nat.ne_of_lt (Heap.lt_size e)) e
      refine hu { s with heap := h3, toks := tk } _ E (S.ex (S.ex hx hk) k3) ((hns.keeps hk).keeps k3) fun h4 t4 k4 n4 => ?_
      exact hr { s with heap := h4, toks := t4 } Q E k4 n4 fun u h2 t2 r k => hQ u h2 t2 r k
    have hq' := hq h' (S.ex hx hk)
    cases b with
    | true =>
      have t : IsTup h' a its.toArray := hq'.2
      exact wpAny_assign_Tuple (s := { s with heap := h', toks := tk }) hd t hn hst after
    | false =>
      have t : PlainL h' a its.toArray := hq'.2
      rw [PyProof.Rows.assign_Tuple]
      refine wpAny_bind (wpAny_standAt ?_)
      unfold unpack
      rw [hn, hst]
      exact wpAny_bind (wpAny_holding (PySem.W.kun_itemsOf hd t.isList after))
  exact main
/-- a pure def: what it gives is told by a relation -/
structure PFR (P : Program) (w : World) (K : PySem.W.Frag) (mg : Str → Option Value) (base : Heap) (k : Nat) (f : Addr) (fd : FuncData) (ps : List Str) (sp : List V → Heap → (Value → Heap → Prop) → Prop) : Prop where
  run : ∀ (A : Around) (s : Shared) (args : Args) (us : List Value) (vs : List V) (S : Value → Heap → Prop) (R : Result → Shared → Prop), Room k A → Ext base s.heap → BindsTo s fd args (ps.zip us) → Vals vs us → vs.length = ps.length → sp vs s.heap S →
    (∀ u h' tk, S u h' → Ext s.heap h' → R (.ok (.ret u)) { s with heap := h', toks := tk }) → codeAny (model P w) A (.call (.ref f) args) R s
theorem PFR.pf {k : Nat} {f : Addr} {fd : FuncData} {ps : List Str} {sp : List V → Heap → V → Prop} (F : PFR P w K mg base k f fd ps fun vs h S => ∃ v, sp vs h v ∧ S = fun u _ => RelV v u) : PF P w K mg base k f fd ps sp :=
  ⟨fun A s args us vs v R hr hb hbi hv hl hs hR => F.run A s args us vs _ R hr hb hbi hv hl ⟨v, hs, rfl⟩ hR⟩
/-- a pure def of the text, of several statements -/
theorem pf_body {x qual : Str} {st : Stmt} {f : Addr} {fd : FuncData} {N ps : List Str} {k : Nat} {sp : List V → Heap → (Value → Heap → Prop) → Prop} (M : L2.Mod K mg base) (Fn : Fun K x qual st f fd) (S : FnScope N ps (defScope st))
    (hloc : ∀ y ∈ ps, (defScope st).names.lookup y = some .local)
    (hbody : ∀ (cdv : Value) (A : Around) (L : Addr) (g : Heap) (us : List Value) (vs : List V) (T : Value → Heap → Prop) (m : Str → Option Value), Room k A → Ext base g → Vals vs us → vs.length = ps.length → sp vs g T → g.get? L = none →
      (∀ (i : Nat) (y : Str) (u : Value), ps[i]? = some y → us[i]? = some u → m y = some u) → ES P w A (envOfC qual (defScope st) L f cdv) (fun h => Ext g h) m (defBody st) T) : PFR P w K mg base (k + 1) f fd ps sp := by
  obtain ⟨oc, od, kV, doc, pm, an, cdv, ct, osl, rfl, lk, hcd⟩ := Fn.ex
  refine ⟨fun A s args us vs T R hr hbs hb r hl hsp hR => ?_⟩
  have KX : K.In s.heap := M.kin.keeps hbs
  have lim : s.heap.NoLimit := M.nolimit.keeps hbs
  have ndP : ps.Nodup := by rw [← S.pre]; exact S.nd.sublist (List.take_sublist _ _)
  refine codeAny_call_function hr.depth (KX _ _ lk) rfl S.co S.gen rfl (PySem.W.codeRec_of KX hcd) (hb _ _ _ _ ?_)
  refine wpAny_newFunctionEnv_cells S.kind (fun ⟨n, z⟩ hy => .inl (hloc n (List.of_mem_zip hy).1)) fun env he s1 X => ?_
  subst he
  obtain ⟨h1, tk, e1, hk1⟩ := X.done
  refine ⟨lim.keeps X.toInCall.keep, codeAny_func ?_⟩
  have hns := X.toInCall.ns
  subst e1
  have fresh : s.heap.get? s.heap.objs.size = none := by
    cases z : s.heap.get? s.heap.objs.size with
    | none => rfl
    | some o => exact absurd (Heap.lt_size z) (Nat.lt_irrefl _)
  refine hbody cdv _ s.heap.objs.size s.heap us vs T _ (hr.deeper _) hbs r hl hsp fresh (fun i y u h2 h3 => bindL_get ndP h2 h3 (hloc y (List.mem_of_getElem? h2))) _ _ _ hk1 hns fun u h' t' rv k' => ?_
  exact hR u h' t' rv k'
end
end Pu
set_option Elab.async false
set_option linter.all false
set_option maxRecDepth 100000
set_option maxHeartbeats 4000000
/-! Pure expressions, more of them. -/
namespace Pu
open PySem PySem.Spec PyProof.Rows L2
section
variable {P : Program} {w : World} {K : PySem.W.Frag} {mg : Str → Option Value} {base : Heap} {A : Around} {env : Env} {g : Heap}
/-- a name of the module -/
theorem ev_gc {x : Str} {pos : Pos} {u : Value} {v : V} (F : FrP K mg base A env g) (hg : env.kindOf x = some .globalImplicit) (hm : mg x = some u) (r : RelV v u) (hd : (x == ("__debug__" : Str)) = false := by decide) : EV P w A env g (.Name x pos) v := fun s Q E hx hQ => by
  have hbs : Ext base s.heap := fun b o e => hx b o (F.ext b o e)
  exact Calls.Name_function_global F.kind hg (Calls.loadGlobal_global (by rw [F.glob]; exact F.mod.glob.keeps hbs) hm (hQ u s.heap s.toks r fun _ _ e => e)) hd
theorem ev_neg {a : Expr} {pos : Pos} {i : Int} (ha : EV P w A env g a (.int i)) : EV P w A env g (.UnaryOp .USub a pos) (.int (-i)) := fun s Q E hx hQ => by
  refine UnaryOp_ (ha s _ E hx fun u h' tk r hk => ?_)
  obtain ⟨t, rfl⟩ := r
  exact neg_int (hQ _ h' _ ⟨_, rfl⟩ hk)
theorem ev_bin {op : Operator} {a b : Expr} {pos : Pos} {i j k : Int} (ha : EV P w A env g a (.int i)) (hb : EV P w A env g b (.int j))
    (hc : ∀ (s : Shared) (t t' : Nat) (Q : Value → Shared → Prop) (E : Value → Shared → Prop), (Q (.int k s.toks) { s with toks := s.toks + 1 }) → wpAny (model P w) A (binaryOp op (.int i t) (.int j t')) Q E s) : EV P w A env g (.BinOp a op b pos) (.int k) := fun s Q E hx hQ => by
  refine wpAny_BinOp (ha s _ E hx fun u h' tk ru hk => ?_)
  refine hb { s with heap := h', toks := tk } _ E (fun b o e => hk b o (hx b o e)) fun u2 h2 t2 r2 k2 => ?_
  obtain ⟨t, rfl⟩ := ru
  obtain ⟨t', rfl⟩ := r2
  exact hc _ _ _ _ _ (hQ _ h2 _ ⟨_, rfl⟩ fun b o e => k2 b o (hk b o e))
theorem ev_add {a b : Expr} {pos : Pos} {i j : Int} (ha : EV P w A env g a (.int i)) (hb : EV P w A env g b (.int j)) : EV P w A env g (.BinOp a .Add b pos) (.int (i + j)) := ev_bin ha hb fun _ _ _ _ _ q => add_int q
theorem ev_sub {a b : Expr} {pos : Pos} {i j : Int} (ha : EV P w A env g a (.int i)) (hb : EV P w A env g b (.int j)) : EV P w A env g (.BinOp a .Sub b pos) (.int (i - j)) := ev_bin ha hb fun _ _ _ _ _ q => sub_int q
theorem ev_mul {a b : Expr} {pos : Pos} {i j : Int} (hm : IntMulOk i j) (ha : EV P w A env g a (.int i)) (hb : EV P w A env g b (.int j)) : EV P w A env g (.BinOp a .Mult b pos) (.int (i * j)) := ev_bin ha hb fun _ _ _ _ _ q => mul_int q hm
theorem ev_and_ {a b : Expr} {pos : Pos} {i j : Int} (ha : EV P w A env g a (.int i)) (hb : EV P w A env g b (.int j)) : EV P w A env g (.BinOp a .BitAnd b pos) (.int (Builtin.bitAnd i j)) := ev_bin ha hb fun _ _ _ _ _ q => and_int q
theorem ev_gt {a b : Expr} {pos : Pos} {i j : Int} (ha : EV P w A env g a (.int i)) (hb : EV P w A env g b (.int j)) (hm : behindInMarks .Gt b = false := by first | exact nobehind _ (by decide) (by decide) | rfl) :
    EV P w A env g (.Compare a [.Gt] [b] pos) (.bl (decide (i > j))) := fun s Q E hx hQ => by
  refine wpAny_Compare1 (ha s _ E hx fun u h' tk r hk => ?_) hm
  refine hb { s with heap := h', toks := tk } _ E (fun b o e => hk b o (hx b o e)) fun u2 h2 t2 r2 k2 => ?_
  obtain ⟨t, rfl⟩ := r
  obtain ⟨t', rfl⟩ := r2
  exact gt_int (hQ _ h2 t2 rfl fun b o e => k2 b o (hk b o e))
/-- i <= j <= k -/
theorem ev_chain {a b c : Expr} {pos : Pos} {i j k : Int} (ha : EV P w A env g a (.int i)) (hb : EV P w A env g b (.int j)) (hc : EV P w A env g c (.int k))
    (hm : lastMarks [CmpOp.LtE, .LtE] [b, c] = false := by with_unfolding_all rfl) : EV P w A env g (.Compare a [.LtE, .LtE] [b, c] pos) (.bl (decide (i ≤ j) && decide (j ≤ k))) := fun s Q E hx hQ => by
  refine Compare_chain (ha s _ E hx fun u h' tk r hk => chain_link (hb { s with heap := h', toks := tk } _ E (fun b o e => hk b o (hx b o e)) fun u2 h2 t2 r2 k2 => ?_)) hm
  obtain ⟨t, rfl⟩ := r
  obtain ⟨t', rfl⟩ := r2
  refine le_int (wpAny_truthy_bool ?_)
  have k3 : Ext s.heap h2 := fun b o e => k2 b o (hk b o e)
  cases hd : decide (i ≤ j) with
  | false =>
    rw [hd] at hQ
    exact ite_ff (hQ _ h2 t2 rfl k3)
  | true =>
    rw [hd] at hQ
    refine ite_tt (chain_last (hc { s with heap := h2, toks := t2 } _ E (fun b o e => k3 b o (hx b o e)) fun u4 h4 t4 r4 k4 => ?_))
    obtain ⟨t5, rfl⟩ := r4
    exact le_int (hQ _ h4 t4 rfl fun b o e => k4 b o (k3 b o e))
/-- x if c else y, told by a relation -/
theorem er_if {t a b : Expr} {pos : Pos} {c : Bool} {R : Value → Heap → Prop} (ht : EVT P w A env g t c) (ha : c = true → EVR P w A env g a R) (hb : c = false → EVR P w A env g b R) : EVR P w A env g (.IfExp t a b pos) R := fun s Q E hx hQ => by
  refine wpAny_IfExp (ht s _ _ E rfl hx fun h' tk hk => ?_)
  cases c with
  | true => exact ite_tt (ha rfl { s with heap := h', toks := tk } Q E (fun b o e => hk b o (hx b o e)) fun u h2 t2 r k => hQ u h2 t2 r fun b o e => k b o (hk b o e))
  | false => exact ite_ff (hb rfl { s with heap := h', toks := tk } Q E (fun b o e => hk b o (hx b o e)) fun u h2 t2 r k => hQ u h2 t2 r fun b o e => k b o (hk b o e))
theorem EVR.imp {e : Expr} {R S : Value → Heap → Prop} (h : EVR P w A env g e R) (k : ∀ u h, R u h → S u h) : EVR P w A env g e S := fun s Q E hx hQ => h s Q E hx fun u h' tk r => hQ u h' tk (k u h' r)
/-- a tuple laid anew -/
def TupR (vs : List V) (u : Value) (h : Heap) : Prop := ∃ a us, u = .ref a ∧ Vals vs us ∧ SeqG h true a us
theorem er_tup {es : List Expr} {k : Nat} {pos : Pos} {vs : List V} (ha : EA P w A env g es vs) (hl : vs.length ≤ 1000) : EVR P w A env g (.Tuple es k pos) (TupR vs) := fun s Q E hx hQ => by
  refine wpAny_Tuple_spliced (ha pos s _ E hx fun us h' tk r hk => ⟨?_, ?_⟩)
  · rw [← r.length]
    exact Nat.le_trans hl (by decide)
  · refine hQ _ (h'.push { cls := .type "tuple", data := .seq us.toArray }) tk ⟨_, us, rfl, r, ?_, ?_⟩ fun b o e => Heap.get?_push_of_some _ (hk b o e)
    · rw [← r.length]
      exact Nat.le_trans hl (by decide)
    · exact ⟨_, Heap.get?_push_size _ rfl, rfl, _, rfl⟩
/-- sum(x) of a tuple of whole numbers -/
theorem sum_tup {s : Shared} {a : Addr} {us : List Value} {val : Nat → Int} {Q : Value → Shared → Prop} {E : Value → Shared → Prop} (hh : A.handled = none) (p : IsTup s.heap a us.toArray) (hi : ∀ (i : Nat) (v : Value), us[i]? = some v → ∃ t, v = Value.int (val i) t)
    (h : ∀ h' tk t', Ext s.heap h' → Q (.int (preSum val us.length) t') { s with heap := h', toks := tk }) : wpAny (model P w) A (call (.builtin "sum") [.ref a]) Q E s := by
  have lt : a < s.heap.objs.size := p.lt
  have hne : a ≠ s.heap.objs.size := Nat.ne_of_lt lt
  refine call_sum_walkG (wpAny_pyIter_tuple (show s.heap.IsTuple a us.toArray from p) ?_)
  refine ⟨_, _, _, _, _, _, val, rfl, Walks.tuple (show A.in1.handled = none from hh) s.heap.objs.size a hne us.toArray, ⟨⟨_, Heap.get?_push_size _ rfl, rfl, rfl⟩, ?_⟩, ?_, fun i v e => hi i v (by simpa using e), fun h' tk t' hk => ?_⟩
  · obtain ⟨o, ho, r⟩ := p
    exact ⟨o, Heap.get?_push_of_some _ ho, r⟩
  · intro b hb
    rw [Heap.size_push]
    rcases List.mem_cons.mp hb with z | z
    · rw [z]; exact Nat.lt_succ_self _
    · rcases List.mem_cons.mp z with z | z
      · rw [z]; exact Nat.lt_succ_of_lt lt
      · cases z
  · have := h h' tk t' fun b o e => hk b o (fun z => Nat.ne_of_lt (Heap.lt_size e) (List.mem_singleton.mp z)) (Heap.get?_push_of_some _ e)
    simpa using this
end
end Pu
set_option Elab.async false
set_option linter.all false
set_option maxRecDepth 100000
set_option maxHeartbeats 4000000
namespace Pu
open PySem PySem.Spec PyProof.Rows L2
/-- arguments, told by a relation -/
def EAR (P : Program) (w : World) (A : Around) (env : Env) (g : Heap) (es : List Expr) (R : List Value → Heap → Prop) : Prop :=
  ∀ (pos : Pos) (s : Shared) (Q : List Value → Shared → Prop) (E : Value → Shared → Prop), Ext g s.heap →
    (∀ us h' tk, R us h' → Ext s.heap h' → Q us { s with heap := h', toks := tk }) → wpAny (model P w) A (spliced (backTo pos (starEach es env))) Q E s
section
variable {P : Program} {w : World} {K : PySem.W.Frag} {mg : Str → Option Value} {base : Heap} {A : Around} {env : Env} {g : Heap}
theorem EV.to {e : Expr} {v v' : V} (h : EV P w A env g e v) (z : v = v') : EV P w A env g e v' := z ▸ h
theorem ar_last {e : Expr} {R : Value → Heap → Prop} (ha : EVR P w A env g e R) (hs : starEach [e] env = (false, eval e env) :: starEach [] env := by rfl) : EAR P w A env g [e] (fun us h => ∃ u, us = [u] ∧ R u h) := fun pos s Q E hx hQ => by
  rw [hs]
  show wpAny _ _ (spliced ((false, eval e env) :: backTo pos (starEach [] env))) _ _ s
  exact Calls.spliced_cons (ha s _ E hx fun u h' tk r hk => Calls.spliced_nil (hQ [u] h' tk ⟨u, rfl, r⟩ hk))
theorem ar_ea {es : List Expr} {vs : List V} (h : EA P w A env g es vs) : EAR P w A env g es (fun us _ => Vals vs us) := h
theorem ar_cons {e : Expr} {es : List Expr} {v : V} {R : List Value → Heap → Prop} (ha : EV P w A env g e v) (hr : EAR P w A env g es R) (hs : starEach (e :: es) env = (false, eval e env) :: starEach es env := by rfl) :
    EAR P w A env g (e :: es) (fun us h => ∃ u us', us = u :: us' ∧ RelV v u ∧ R us' h) := fun pos s Q E hx hQ => by
  rw [hs]
  show wpAny _ _ (spliced ((false, eval e env) :: backTo pos (starEach es env))) _ _ s
  refine Calls.spliced_cons (ha s _ E hx fun u h' tk r hk => ?_)
  exact hr pos { s with heap := h', toks := tk } _ E (fun b o e => hk b o (hx b o e)) fun us h2 t2 r2 k2 => hQ (u :: us) h2 t2 ⟨u, us, rfl, r, r2⟩ fun b o e => k2 b o (hk b o e)
/-- a pure def by its name, its answer told by a relation -/
theorem er_pf {k : Nat} {f : Addr} {fd : FuncData} {ps : List Str} {sp : List V → Heap → (Value → Heap → Prop) → Prop} {x : Str} {p pos : Pos} {e : Expr} {es : List Expr} {RA : List Value → Heap → Prop} {S : Value → Heap → Prop} (F : FrP K mg base A env g) (G : PFR P w K mg base k f fd ps sp) (hr : Room k A)
    (hg : env.kindOf x = some .globalImplicit) (hm : mg x = some (.ref f)) (hk : PySem.W.keepIn K (.ref f) = true) (hb : Binds K fd ps []) (ha : EAR P w A env g (e :: es) RA)
    (hsp : ∀ us h, Ext g h → RA us h → ∃ vs, Vals vs us ∧ vs.length = ps.length ∧ sp vs h S) (hd : (x == ("__debug__" : Str)) = false := by decide)
    (he : starEach (e :: es) env = (false, eval e env) :: starEach es env := by rfl) (hpl : (backTo pos (starEach es env)).any (·.1) = false := by rfl) : EVR P w A env g (.Call (.Name x p) (e :: es) [] pos) S := fun s Q E hx hQ => by
  have hbs : Ext base s.heap := fun b o e => hx b o (F.ext b o e)
  refine wpAny_Call_Name_kw (Calls.Name_function_global F.kind hg (Calls.loadGlobal_global (by rw [F.glob]; exact F.mod.glob.keeps hbs) hm ?_) hd)
  refine PySem.W.callWith_K (h₀ := base) F.mod.kin hk (ha pos s _ E hx fun us h' tk r hk2 => ?_) he hpl
  have hx2 : Ext g h' := fun b o e => hk2 b o (hx b o e)
  have hb2 : Ext base h' := fun b o e => hx2 b o (F.ext b o e)
  obtain ⟨vs, rv, hl, hs⟩ := hsp us h' hx2 r
  refine ⟨F.mod.kin.keeps hb2, ?_⟩
  show wpAny _ _ (call (.ref f) us) _ _ _
  have hlu : (us ++ []).length = ps.length := by rw [List.append_nil, ← rv.length]; exact hl
  have hbind := hb { s with heap := h', toks := tk } us (F.mod.kin.keeps hb2) hlu
  rw [List.append_nil] at hbind
  refine wpAny_call (codeAny_mono (G.run A { s with heap := h', toks := tk } ⟨us, []⟩ us vs S (fun r s' => ∃ u h2 t2, r = .ok (.ret u) ∧ S u h2 ∧ Ext h' h2 ∧ s' = { s with heap := h2, toks := t2 }) hr hb2 hbind rv hl hs fun u h2 t2 r2 k2 => ⟨u, h2, t2, rfl, r2, k2, rfl⟩) fun r s' hq => ?_)
  obtain ⟨u, h2, t2, rfl, r2, k2, rfl⟩ := hq
  exact hQ u h2 t2 r2 fun b o e => k2 b o (hk2 b o e)
end
end Pu
namespace K09
open PySem PySem.Spec PyProof.Rows L2 GxR Pu Evl
theorem scIsReading : FnScope ["value"] ["value"] (defScope sIsReading) := ⟨rfl, rfl, rfl, by decide +kernel, rfl, by decide +kernel, by decide +kernel⟩
theorem scIsSize : FnScope ["value"] ["value"] (defScope sIsSize) := ⟨rfl, rfl, rfl, by decide +kernel, rfl, by decide +kernel, by decide +kernel⟩
theorem scSumsWith : FnScope ["many", "low", "high", "needs", "others"] ["many", "low", "high", "needs"] (defScope sSumsWith) := ⟨rfl, rfl, rfl, by decide +kernel, rfl, by decide +kernel, by decide +kernel⟩
theorem scEndsOf : FnScope ["low", "high"] ["low", "high"] (defScope sEndsOf) := ⟨rfl, rfl, rfl, by decide +kernel, rfl, by decide +kernel, by decide +kernel⟩
theorem scIsSpan : FnScope ["value", "first", "many", "whole", "low", "high", "sums"] ["value"] (defScope sIsSpan) := ⟨rfl, rfl, rfl, by decide +kernel, rfl, by decide +kernel, by decide +kernel⟩
/-- the module's number -/
def Mv (mg : Str → Option Value) : Prop := ∃ u, mg "MOST_VALUE" = some u ∧ RelV (.int 1000000) u
def pReading : List V → Heap → V → Prop := fun vs g v => ∃ i : Int, vs = [.int i] ∧ v = .bl (decide (-1000000 ≤ i) && decide (i ≤ 1000000))
def pSize : List V → Heap → V → Prop := fun vs g v => ∃ i : Nat, vs = [.int ((2 ^ i : Nat) : Int)] ∧ v = .bl true
theorem pow_and (i : Nat) : Builtin.bitAnd ((2 ^ i : Nat) : Int) (((2 ^ i : Nat) : Int) - 1) = 0 := by
  have p : 0 < 2 ^ i := Nat.two_pow_pos i
  have e : (((2 ^ i : Nat) : Int) - 1) = ((2 ^ i - 1 : Nat) : Int) := by omega
  rw [e]
  unfold Builtin.bitAnd
  rw [decide_eq_true (by omega), decide_eq_true (by omega)]
  show (((((2 ^ i : Nat) : Int).toNat &&& ((2 ^ i - 1 : Nat) : Int).toNat : Nat) : Nat) : Int) = 0
  rw [Int.toNat_natCast, Int.toNat_natCast, Nat.and_two_pow_sub_one_eq_mod, Nat.mod_self]
  rfl
section
variable {P : Program} {w : World} {K : PySem.W.Frag} {mg : Str → Option Value} {base : Heap}
theorem pf_is_reading {f f1 : Addr} {fd fd1 : FuncData} (M : L2.Mod K mg base) (G : Mg mg) (V' : Mv mg) (F : Fun K "is_reading" "is_reading" sIsReading f fd) (F1 : Fns K mg "is_integer" ["value"] sIsInteger f1 fd1) : PF P w K mg base 2 f fd ["value"] pReading := by
  have G1 : PF P w K mg base 1 f1 fd1 ["value"] pInteger := pf_is_integer M G F1.fn
  obtain ⟨um, em, rm⟩ := V'
  refine pf_ret M F scIsReading rfl (by decide +kernel) (fun cdv A L g us vs v hr hx r hl h hn => ?_) fun vs g h v e q => q
  obtain ⟨i, rfl, rfl⟩ := h
  obtain ⟨u, rfl, ru⟩ := vals1 r
  obtain ⟨m, ns, hm⟩ := hn 0 "value" u rfl rfl
  have FR : FrP K mg base A (envOfC "is_reading" (defScope sIsReading) L f cdv) g := ⟨M, hx, rfl, rfl, rfl, hr.hd⟩
  have val : ∀ {pos : Pos}, EV P w A (envOfC "is_reading" (defScope sIsReading) L f cdv) g (.Name "value" pos) (.int i) := ev_loc FR rfl ns hm ru
  exact ev_and (x := true) (ev_pf FR G1 hr rfl F1.mg F1.fn.kp F1.bd (ea_cons val ea_nil) rfl fun h e => ⟨_, _, rfl, .int i, rfl⟩) fun _ => ev_one (ev_chain (ev_neg (ev_gc FR rfl em rm)) val (ev_gc FR rfl em rm))
theorem pf_is_size {f f1 f2 : Addr} {fd fd1 fd2 : FuncData} (M : L2.Mod K mg base) (G : Mg mg) (F : Fun K "is_size" "is_size" sIsSize f fd) (F1 : Fns K mg "is_number" ["value"] sIsNumber f1 fd1) (F2 : Fns K mg "is_integer" ["value"] sIsInteger f2 fd2) : PF P w K mg base 3 f fd ["value"] pSize := by
  have G1 : PF P w K mg base 2 f1 fd1 ["value"] pNumber := pf_is_number M G F1.fn F2.fn F2.bd F2.mg
  refine pf_ret M F scIsSize rfl (by decide +kernel) (fun cdv A L g us vs v hr hx r hl h hn => ?_) fun vs g h v e q => q
  obtain ⟨i, rfl, rfl⟩ := h
  obtain ⟨u, rfl, ru⟩ := vals1 r
  obtain ⟨m, ns, hm⟩ := hn 0 "value" u rfl rfl
  have FR : FrP K mg base A (envOfC "is_size" (defScope sIsSize) L f cdv) g := ⟨M, hx, rfl, rfl, rfl, hr.hd⟩
  have val : ∀ {pos : Pos}, EV P w A (envOfC "is_size" (defScope sIsSize) L f cdv) g (.Name "value" pos) (.int ((2 ^ i : Nat) : Int)) := ev_loc FR rfl ns hm ru
  have p : 0 < 2 ^ i := Nat.two_pow_pos i
  have t1 : isNum (.int ((2 ^ i : Nat) : Int)) = true := decide_eq_true (show ((2 ^ i : Nat) : Int) ≥ 0 by omega)
  exact ev_and (x := true) (y := true) (ev_pf FR G1 hr rfl F1.mg F1.fn.kp F1.bd (ea_cons val ea_nil) rfl fun h e => ⟨_, _, rfl, .int _, by rw [t1]⟩) fun _ =>
    ev_and (x := true) (y := true) (EV.to (ev_gt val ev_int) (by rw [decide_eq_true (show ((2 ^ i : Nat) : Int) > 0 by omega)])) fun _ =>
      ev_one (EV.to (ev_eqI (ev_and_ val (ev_sub val ev_int)) ev_int) (by rw [pow_and]; rfl))
def spEnds : List V → Heap → (Value → Heap → Prop) → Prop := fun vs g S => ∃ i j : Int, vs = [.int i, .int j] ∧ S = TupR (if i = j then [.int i] else [.int i, .int j])
theorem pf_ends {f : Addr} {fd : FuncData} (M : L2.Mod K mg base) (F : Fun K "ends_of" "ends_of" sEndsOf f fd) : PFR P w K mg base 1 f fd ["low", "high"] spEnds := by
  refine pf_body M F scEndsOf (by decide +kernel) fun cdv A L g us vs T m hr hx r hl h hL hn => ?_
  obtain ⟨i, j, rfl, rfl⟩ := h
  obtain ⟨u1, u2, rfl, r1, r2⟩ := vals2 r
  have S := St.over (env := envOfC "ends_of" (defScope sEndsOf) L f cdv) hL
  refine es_ret S fun h1 e1 n1 => ?_
  have FR : FrP K mg base A (envOfC "ends_of" (defScope sEndsOf) L f cdv) h1 := ⟨M, fun b o e => e1 b o (hx b o e), rfl, rfl, rfl, hr.hd⟩
  have lo : ∀ {pos : Pos}, EV P w A (envOfC "ends_of" (defScope sEndsOf) L f cdv) h1 (.Name "low" pos) (.int i) := ev_loc FR rfl n1 (hn 0 "low" u1 rfl rfl) r1
  have hi : ∀ {pos : Pos}, EV P w A (envOfC "ends_of" (defScope sEndsOf) L f cdv) h1 (.Name "high" pos) (.int j) := ev_loc FR rfl n1 (hn 1 "high" u2 rfl rfl) r2
  refine er_if (c := decide (i = j)) (et_cmpI lo hi fun _ _ _ _ _ q => eq_int (by rw [Bool.beq_eq_decide_eq]; exact q)) (fun z => ?_) fun z => ?_
  · rw [if_pos (of_decide_eq_true z)]
    exact er_tup (ea_cons lo ea_nil) (by show 1 ≤ 1000; decide)
  · rw [if_neg (of_decide_eq_false z)]
    exact er_tup (ea_cons lo (ea_cons hi ea_nil)) (by show 2 ≤ 1000; decide)
end
end K09
set_option Elab.async false
set_option linter.all false
set_option maxRecDepth 100000
set_option maxHeartbeats 4000000
namespace K09
open PySem PySem.Spec PyProof.Rows L2 GxR Pu Evl
def tot (ks : List Int) : Int := preSum (fun i => ks.getD i 0) ks.length
def spSums : List V → Heap → (Value → Heap → Prop) → Prop := fun vs g S => ∃ (n : Nat) (lo hi : Int) (a : Addr) (ks : List Int) (us : List Value), vs = [.int (n : Int), .int lo, .int hi, .ref a] ∧ SeqG g true a us ∧ Vals (ks.map V.int) us ∧ ks.length ≤ n ∧ n ≤ 1000000 ∧
  S = TupR [.int (tot ks + ((n : Int) - ks.length) * lo), .int (tot ks + ((n : Int) - ks.length) * hi)]
section
variable {P : Program} {w : World} {K : PySem.W.Frag} {mg : Str → Option Value} {base : Heap}
theorem pf_sums {f : Addr} {fd : FuncData} (M : L2.Mod K mg base) (G : Mg mg) (hsum : mg "sum" = none) (F : Fun K "sums_with" "sums_with" sSumsWith f fd) : PFR P w K mg base 1 f fd ["many", "low", "high", "needs"] spSums := by
  refine pf_body M F scSumsWith (by decide +kernel) fun cdv A L g us vs T m hr hx r hl h hL hn => ?_
  obtain ⟨n, lo, hi, a, ks, ws, rfl, sq, vk, hk, hn9, rfl⟩ := h
  obtain ⟨u1, t1, rfl, r1, q1⟩ : ∃ u1 t1, us = u1 :: t1 ∧ RelV (.int (n : Int)) u1 ∧ Vals [V.int lo, V.int hi, V.ref a] t1 := by cases r with | cons a b => exact ⟨_, _, rfl, a, b⟩
  obtain ⟨u2, t2, rfl, r2, q2⟩ : ∃ u1 t, t1 = u1 :: t ∧ RelV (.int lo) u1 ∧ Vals [V.int hi, V.ref a] t := by cases q1 with | cons a b => exact ⟨_, _, rfl, a, b⟩
  obtain ⟨u3, u4, rfl, r3, r4⟩ := vals2 q2
  have S := St.over (env := envOfC "sums_with" (defScope sSumsWith) L f cdv) hL
  have kl : ws.length = ks.length := by rw [← vk.length, List.length_map]
  refine es_set (R1 := fun u _ => RelV (.int ((n : Int) - ks.length)) u) S rfl rfl (fun h1 e1 n1 => ?_) (fun u h h' x _ => x) fun u => ?_
  · have FR : FrP K mg base A (envOfC "sums_with" (defScope sSumsWith) L f cdv) h1 := ⟨M, fun b o e => e1 b o (hx b o e), rfl, rfl, rfl, hr.hd⟩
    refine EV.r (EV.to (ev_sub (ev_loc FR rfl n1 (hn 0 "many" u1 rfl rfl) r1) (ev_len FR rfl G.len (ev_loc FR rfl n1 (hn 3 "needs" u4 rfl rfl) r4) (sq.mono e1))) (by rw [kl]))
  have S2 : St (envOfC "sums_with" (defScope sSumsWith) L f cdv) (fun h => Ext g h ∧ RelV (.int ((n : Int) - ks.length)) u) := S.and fun h h' x _ => x
  refine es_if (b := false) S2 (fun h1 e1 n1 => ?_) (fun z => nomatch z) fun _ => es_ret S2 fun h1 e1 n1 => ?_
  · have FR : FrP K mg base A (envOfC "sums_with" (defScope sSumsWith) L f cdv) h1 := ⟨M, fun b o e => e1.1 b o (hx b o e), rfl, rfl, rfl, hr.hd⟩
    refine et_cmpI (i := (n : Int) - ks.length) (j := 0) (ev_loc FR rfl n1 put_eq e1.2) ev_int fun _ _ _ _ _ q => lt_int ?_
    rw [decide_eq_false (by omega)]
    exact q
  · have FR : FrP K mg base A (envOfC "sums_with" (defScope sSumsWith) L f cdv) h1 := ⟨M, fun b o e => e1.1 b o (hx b o e), rfl, rfl, rfl, hr.hd⟩
    have oth : ∀ {pos : Pos}, EV P w A (envOfC "sums_with" (defScope sSumsWith) L f cdv) h1 (.Name "others" pos) (.int ((n : Int) - ks.length)) := ev_loc FR rfl n1 put_eq e1.2
    have nd : ∀ {pos : Pos}, EV P w A (envOfC "sums_with" (defScope sSumsWith) L f cdv) h1 (.Name "needs" pos) (.ref a) := ev_loc FR rfl n1 (put_ne (hn 3 "needs" u4 rfl rfl) (by decide)) r4
    have sm : ∀ {p q pos : Pos}, EV P w A (envOfC "sums_with" (defScope sSumsWith) L f cdv) h1 (.Call (.Name "sum" p) [.Name "needs" q] [] pos) (.int (tot ks)) := fun {p q pos} => by
      refine ev_bltcall (id := "sum") (vs := [.ref a]) FR rfl hsum (by decide +kernel) (ea_cons nd ea_nil) (fun s us Q E hx2 r hQ => ?_)
      obtain ⟨u, rfl, ru⟩ := vals1 r
      cases (show u = Value.ref a from ru)
      refine sum_tup (val := fun i => ks.getD i 0) hr.hd (show IsTup s.heap a ws.toArray from ((sq.mono e1.1).mono hx2).2) (fun i v hv => ?_) fun h' tk t' hk' => ?_
      · have li : i < ks.length := by rw [← kl]; exact (List.getElem?_eq_some_iff.mp hv).1
        obtain ⟨v', hv', rv⟩ := vk.get (i := i) (by rw [List.getElem?_map, List.getElem?_eq_getElem li]; rfl)
        cases Option.some.inj (hv'.symm.trans hv)
        obtain ⟨t, rfl⟩ := rv
        exact ⟨t, by rw [List.getD_eq_getElem?_getD, List.getElem?_eq_getElem li]; rfl⟩
      · rw [kl]
        exact hQ _ h' tk ⟨t', rfl⟩ hk'
    have mk : ∀ x : Int, IntMulOk ((n : Int) - ks.length) x := fun x => CMul.ok (.inl ⟨by omega, by omega⟩)
    refine er_tup (ea_cons (ev_add sm (ev_mul (mk _) oth (ev_loc FR rfl n1 (put_ne (hn 1 "low" u2 rfl rfl) (by decide)) r2))) (ea_cons (ev_add sm (ev_mul (mk _) oth (ev_loc FR rfl n1 (put_ne (hn 2 "high" u3 rfl rfl) (by decide)) r3))) ea_nil)) (by show 2 ≤ 1000; decide)
end
end K09
set_option Elab.async false
set_option linter.all false
set_option maxRecDepth 100000
set_option maxHeartbeats 4000000
namespace Pu
open PySem PySem.Spec PyProof.Rows L2
section
variable {P : Program} {w : World} {K : PySem.W.Frag} {mg : Str → Option Value} {base : Heap} {A : Around} {env : Env} {g : Heap}
theorem ev_bl {b : Bool} {k : Nat} {pos : Pos} : EV P w A env g (.Constant (.bool b) k pos) (.bl b) := fun s Q E hx hQ => wpAny_Constant_bool (hQ _ s.heap s.toks rfl fun _ _ e => e)
/-- x is not None, x a tuple or a list -/
theorem ev_isNot {e : Expr} {pos p2 : Pos} {k : Nat} {a : Addr} (he : EV P w A env g e (.ref a)) : EV P w A env g (.Compare e [.IsNot] [.Constant .none k p2] pos) (.bl true) := fun s Q E hx hQ => by
  refine wpAny_Compare1 (he s _ E hx fun u h' tk r hk => wpAny_Constant_none ?_) (nobehind _ (by decide) (by decide))
  cases (show u = Value.ref a from r)
  exact wpAny_isNot_other rfl (fun z => nomatch z) (hQ _ h' tk rfl hk)
/-- name = value, what is known of the value sharpened by where the locals stand -/
theorem es_set2 {m : Str → Option Value} {R : Value → Heap → Prop} {W : Heap → Prop} {x : Str} {e : Expr} {p pos : Pos} {rest : List Stmt} {R1 R2 : Value → Heap → Prop} (S : St env W) (hl : env.kindOf x = some .local) (hk : env.scope.kind = .function)
    (he : ∀ h1, W h1 → h1.Ns env.locals m → EVR P w A env h1 e R1) (h2 : ∀ u h m', R1 u h → h.Ns env.locals m' → R2 u h) (hR : ∀ u, St env (R2 u)) (hm : ∀ u, ES P w A env (fun h => W h ∧ R2 u h) (put m x u) rest R)
    (hsw : swapsWith e (some (.Name x p)) pos.line env = pure false := by rfl) : ES P w A env W m (.Assign [.Name x p] e pos :: rest) R := fun s Q E hx hn hQ => by
  refine wpAny_execs_cons (wpAny_Assign_Name (he s.heap hx hn s _ E (fun _ _ e => e) fun u h' tk r hk2 => ?_) hsw)
  have r2 := h2 u h' m r (hn.keeps hk2)
  refine wpAny_storeName_local hl (hn.keeps hk2) (fun h3 ns3 same => ?_) (by rw [hk]; rfl)
  have st : ∀ b o, b ≠ env.locals → h'.get? b = some o → h3.get? b = some o := fun b o hb e => same.extBut b o hb e
  exact hm u { s with heap := h3, toks := tk + 1 } Q E ⟨S _ _ (S.ex hx hk2) st, hR u _ _ r2 st⟩ ns3 fun u h2 t2 r k => hQ u h2 t2 r k.1
/-- a tuple that stands elsewhere than the locals -/
def TupN (L : Addr) (vs : List V) (u : Value) (h : Heap) : Prop := ∃ a us, u = .ref a ∧ a ≠ L ∧ Vals vs us ∧ SeqG h true a us
theorem TupR.n {vs : List V} {u : Value} {h : Heap} {L : Addr} {m : Str → Option Value} (x : TupR vs u h) (n : h.Ns L m) : TupN L vs u h := by
  obtain ⟨a, us, rfl, v, sq⟩ := x
  refine ⟨a, us, rfl, fun z => ?_, v, sq⟩
  obtain ⟨o, ho, q1, n1, q2⟩ := (show IsTup h a us.toArray from sq.2)
  subst z
  obtain ⟨o', es, ep, ho', hd', _⟩ := n
  rw [ho] at ho'
  cases ho'
  rw [q2] at hd'
  cases hd'
theorem TupN.st {vs : List V} {u : Value} : St env (TupN env.locals vs u) := fun h h' x k => by
  obtain ⟨a, us, rfl, na, v, sq⟩ := x
  obtain ⟨o, ho, r⟩ := (show IsTup h a us.toArray from sq.2)
  exact ⟨a, us, rfl, na, v, sq.1, o, k _ _ na ho, r⟩
end
end Pu
namespace K09
open PySem PySem.Spec PyProof.Rows L2 GxR Pu Evl
def ends (lo hi : Int) : List Int := if lo = hi then [lo] else [lo, hi]
/-- first, many, sum, low, high that are a span -/
structure Good (f n : Nat) (wh lo hi : Int) : Prop where
  pw : ∃ i, n = 2 ^ i
  n9 : n ≤ 1000000
  l1 : -1000000 ≤ lo
  l2 : lo ≤ hi
  l3 : hi ≤ 1000000
  en : (ends lo hi).length ≤ n
  s1 : tot (ends lo hi) + ((n : Int) - (ends lo hi).length) * lo ≤ wh
  s2 : wh ≤ tot (ends lo hi) + ((n : Int) - (ends lo hi).length) * hi
def pSpan : List V → Heap → V → Prop := fun vs g v => ∃ (a : Addr) (b : Bool) (its : List Value) (f n : Nat) (wh lo hi : Int), vs = [.ref a] ∧ SeqG g b a its ∧ Vals [.int (f : Int), .int (n : Int), .int wh, .int lo, .int hi] its ∧ Good f n wh lo hi ∧ v = .bl true
section
variable {P : Program} {w : World} {K : PySem.W.Frag} {mg : Str → Option Value} {base : Heap}
variable {fPar fNum fInt fSz fRd fSm fEn fSq : Addr} {dPar dNum dInt dSz dRd dSm dEn dSq : FuncData}
theorem pf_is_span {f : Addr} {fd : FuncData} (M : L2.Mod K mg base) (G : Mg mg) (V' : Mv mg) (hsum : mg "sum" = none) (F : Fun K "is_span" "is_span" sIsSpan f fd) (F1 : Fns K mg "is_of_parts" ["value", "many"] sIsOfParts fPar dPar) (F2 : Fns K mg "is_number" ["value"] sIsNumber fNum dNum) (F3 : Fns K mg "is_integer" ["value"] sIsInteger fInt dInt)
    (F4 : Fns K mg "is_size" ["value"] sIsSize fSz dSz) (F5 : Fns K mg "is_reading" ["value"] sIsReading fRd dRd) (F6 : Fns K mg "sums_with" ["many", "low", "high", "needs"] sSumsWith fSm dSm) (F7 : Fns K mg "ends_of" ["low", "high"] sEndsOf fEn dEn) (F8 : Fns K mg "is_sequence" ["value"] sIsSequence fSq dSq) : PF P w K mg base 4 f fd ["value"] pSpan := by
  have G1 : PF P w K mg base 2 fPar dPar ["value", "many"] pOfParts := pf_is_of_parts M G F1.fn F8.fn F8.bd F8.mg
  have G2 : PF P w K mg base 2 fNum dNum ["value"] pNumber := pf_is_number M G F2.fn F3.fn F3.bd F3.mg
  have G3 : PF P w K mg base 1 fInt dInt ["value"] pInteger := pf_is_integer M G F3.fn
  have G4 : PF P w K mg base 3 fSz dSz ["value"] pSize := pf_is_size M G F4.fn F2 F3
  have G5 : PF P w K mg base 2 fRd dRd ["value"] pReading := pf_is_reading M G V' F5.fn F3
  have G6 : PFR P w K mg base 1 fSm dSm ["many", "low", "high", "needs"] spSums := pf_sums M G hsum F6.fn
  have G7 : PFR P w K mg base 1 fEn dEn ["low", "high"] spEnds := pf_ends M F7.fn
  refine PFR.pf (pf_body M F scIsSpan (by decide +kernel) fun cdv A L g us vs T m hr hx r hl h hL hn => ?_)
  obtain ⟨v, ⟨a, bb, its, f0, n, wh, lo, hi, rfl, sq, vk, gd, rfl⟩, rfl⟩ := h
  obtain ⟨u0, rfl, r0⟩ := vals1 r
  have hlen : its.length = 5 := by rw [← vk.length]; rfl
  obtain ⟨v1, t1, rfl, k1, q1⟩ : ∃ u1 t1, its = u1 :: t1 ∧ RelV (.int (f0 : Int)) u1 ∧ Vals [V.int (n : Int), V.int wh, V.int lo, V.int hi] t1 := by cases vk with | cons a b => exact ⟨_, _, rfl, a, b⟩
  obtain ⟨v2, t2, rfl, k2, q2⟩ : ∃ u1 t, t1 = u1 :: t ∧ RelV (.int (n : Int)) u1 ∧ Vals [V.int wh, V.int lo, V.int hi] t := by cases q1 with | cons a b => exact ⟨_, _, rfl, a, b⟩
  obtain ⟨v3, t3, rfl, k3, q3⟩ : ∃ u1 t, t2 = u1 :: t ∧ RelV (.int wh) u1 ∧ Vals [V.int lo, V.int hi] t := by cases q2 with | cons a b => exact ⟨_, _, rfl, a, b⟩
  obtain ⟨v4, v5, rfl, k4, k5⟩ := vals2 q3
  have S := St.over (env := envOfC "is_span" (defScope sIsSpan) L f cdv) hL
  have FR : ∀ h1, Ext g h1 → FrP K mg base A (envOfC "is_span" (defScope sIsSpan) L f cdv) h1 := fun h1 e1 => ⟨M, fun b o e => e1 b o (hx b o e), rfl, rfl, rfl, hr.hd⟩
  have m0 : m "value" = some u0 := hn 0 "value" u0 rfl rfl
  obtain ⟨i, hi2⟩ := gd.pw
  have np : (0 : Int) ≤ n := by omega
  have l1 := gd.l1
  have l2 := gd.l2
  have l3 := gd.l3
  refine es_if (b := !true) S (fun h1 e1 n1 => et_not (et_val (EV.to (ev_pf (FR h1 e1) G1 (hr.mono (by decide)) rfl F1.mg F1.fn.kp F1.bd (ea_cons (ev_loc (FR h1 e1) rfl n1 m0 r0) (ea_cons ev_int ea_nil)) rfl fun h e => ⟨_, some 5, 5, rfl, ?_, rfl⟩) rfl))) (fun z => nomatch z) fun _ => ?_
  · have := PartsG.seq ((sq.mono e1).mono e)
    rw [hlen] at this
    exact this
  refine es_unpack S hr.hd (fun h1 e1 n1 => ev_loc (FR h1 e1) rfl n1 m0 r0) (fun h1 e1 => sq.mono e1) (eu_cons S rfl rfl (eu_cons S rfl rfl (eu_cons S rfl rfl (eu_cons S rfl rfl (eu_cons S rfl rfl eu_nil))))) ?_ (by rfl)
  generalize hm' : put (put (put (put (put m "first" v1) "many" v2) "whole" v3) "low" v4) "high" v5 = m'
  have g1 : m' "first" = some v1 := by rw [← hm']; exact put_ne (put_ne (put_ne (put_ne put_eq (by decide)) (by decide)) (by decide)) (by decide)
  have g2 : m' "many" = some v2 := by rw [← hm']; exact put_ne (put_ne (put_ne put_eq (by decide)) (by decide)) (by decide)
  have g3 : m' "whole" = some v3 := by rw [← hm']; exact put_ne (put_ne put_eq (by decide)) (by decide)
  have g4 : m' "low" = some v4 := by rw [← hm']; exact put_ne put_eq (by decide)
  have g5 : m' "high" = some v5 := by rw [← hm']; exact put_eq
  clear hm'
  refine es_if (b := !true || (!true || !true)) S (fun h1 e1 n1 => ?_) (fun z => nomatch z) fun _ => ?_
  · refine et_or (et_not (et_val (EV.to (ev_pf (FR h1 e1) G2 (hr.mono (by decide)) rfl F2.mg F2.fn.kp F2.bd (ea_cons (ev_loc (FR h1 e1) rfl n1 g1 k1) ea_nil) rfl fun h e => ⟨_, _, rfl, .int _, rfl⟩) ?_))) fun _ =>
      et_or (et_not (et_val (ev_pf (FR h1 e1) G4 (hr.mono (by decide)) rfl F4.mg F4.fn.kp F4.bd (ea_cons (ev_loc (FR h1 e1) rfl n1 g2 k2) ea_nil) rfl fun h e => ⟨i, by rw [hi2], rfl⟩))) fun _ =>
        et_or1 (et_not (et_val (EV.to (ev_pf (FR h1 e1) G3 (hr.mono (by decide)) rfl F3.mg F3.fn.kp F3.bd (ea_cons (ev_loc (FR h1 e1) rfl n1 g3 k3) ea_nil) rfl fun h e => ⟨_, _, rfl, .int _, rfl⟩) rfl)))
    rw [show isNum (.int (f0 : Int)) = true from decide_eq_true (show (f0 : Int) ≥ 0 by omega)]
  refine es_if (b := !true || (!true || false)) S (fun h1 e1 n1 => ?_) (fun z => nomatch z) fun _ => ?_
  · refine et_or (et_not (et_val (EV.to (ev_pf (FR h1 e1) G5 (hr.mono (by decide)) rfl F5.mg F5.fn.kp F5.bd (ea_cons (ev_loc (FR h1 e1) rfl n1 g4 k4) ea_nil) rfl fun h e => ⟨_, rfl, rfl⟩) ?_))) fun _ =>
      et_or (et_not (et_val (EV.to (ev_pf (FR h1 e1) G5 (hr.mono (by decide)) rfl F5.mg F5.fn.kp F5.bd (ea_cons (ev_loc (FR h1 e1) rfl n1 g5 k5) ea_nil) rfl fun h e => ⟨_, rfl, rfl⟩) ?_))) fun _ =>
        et_or1 (et_cmpI (ev_loc (FR h1 e1) rfl n1 g4 k4) (ev_loc (FR h1 e1) rfl n1 g5 k5) fun _ _ _ _ _ q => gt_int (by rw [decide_eq_false (show ¬ lo > hi by omega)]; exact q))
    · rw [decide_eq_true (show -1000000 ≤ lo by omega), decide_eq_true (show lo ≤ 1000000 by omega)]; rfl
    · rw [decide_eq_true (show -1000000 ≤ hi by omega), decide_eq_true (show hi ≤ 1000000 by omega)]; rfl
  refine es_set2 (R1 := TupR [.int (tot (ends lo hi) + ((n : Int) - (ends lo hi).length) * lo), .int (tot (ends lo hi) + ((n : Int) - (ends lo hi).length) * hi)]) S rfl rfl (fun h1 e1 n1 => ?_) (fun u h m' k n => k.n n) (fun u => TupN.st) fun u => ?_
  · refine er_pf (FR h1 e1) G6 (hr.mono (by decide)) rfl F6.mg F6.fn.kp F6.bd (ar_cons (ev_loc (FR h1 e1) rfl n1 g2 k2) (ar_cons (ev_loc (FR h1 e1) rfl n1 g4 k4) (ar_cons (ev_loc (FR h1 e1) rfl n1 g5 k5)
      (ar_last (er_pf (S := TupR ((ends lo hi).map V.int)) (FR h1 e1) G7 (hr.mono (by decide)) rfl F7.mg F7.fn.kp F7.bd (ar_ea (ea_cons (ev_loc (FR h1 e1) rfl n1 g4 k4) (ea_cons (ev_loc (FR h1 e1) rfl n1 g5 k5) ea_nil))) fun us h e v => ⟨_, v, rfl, lo, hi, rfl, ?_⟩))))) fun us h e v => ?_
    · unfold ends
      by_cases z : lo = hi
      · rw [if_pos z, if_pos z]; rfl
      · rw [if_neg z, if_neg z]; rfl
    · obtain ⟨w1, us1, rfl, x1, w2, us2, rfl, x2, w3, us3, rfl, x3, w4, rfl, a4, us5, rfl, x5, sq5⟩ := v
      exact ⟨[.int (n : Int), .int lo, .int hi, .ref a4], .cons x1 (.cons x2 (.cons x3 (.cons rfl .nil))), rfl, n, lo, hi, a4, ends lo hi, us5, rfl, sq5, x5, gd.en, gd.n9, rfl⟩
  have S2 := S.and (TupN.st (env := envOfC "is_span" (defScope sIsSpan) L f cdv) (vs := [.int (tot (ends lo hi) + ((n : Int) - (ends lo hi).length) * lo), .int (tot (ends lo hi) + ((n : Int) - (ends lo hi).length) * hi)]) (u := u))
  refine es_ret S2 fun h1 e1 n1 => ?_
  obtain ⟨a4, us4, rfl, _, x4, sq4⟩ := e1.2
  obtain ⟨w1, w2, rfl, x1, x2⟩ := vals2 x4
  have sm : ∀ {pos : Pos}, EV P w A (envOfC "is_span" (defScope sIsSpan) L f cdv) h1 (.Name "sums" pos) (.ref a4) := ev_loc (FR h1 e1.1) rfl n1 put_eq rfl
  refine EV.r (ev_and (x := true) (y := true) (ev_isNot sm) fun _ => ev_one (EV.to (ev_chain (ev_ix (j := 0) (FR h1 e1.1) sm ev_int sq4 rfl x1) (ev_loc (FR h1 e1.1) rfl n1 (put_ne g3 (by decide)) k3) (ev_ix (j := 1) (FR h1 e1.1) sm ev_int sq4 rfl x2)) ?_))
  rw [decide_eq_true gd.s1, decide_eq_true gd.s2]
  rfl
end
end K09
set_option Elab.async false
set_option linter.all false
set_option maxRecDepth 100000
set_option maxHeartbeats 4000000
namespace K09
open PySem PySem.Spec PyProof.Rows L2 GxR Pu Evl
/-- a span by its five numbers -/
structure S5 where
  f : Nat
  n : Nat
  w : Int
  lo : Int
  hi : Int
def S5.vs (s : S5) : List V := [.int (s.f : Int), .int (s.n : Int), .int s.w, .int s.lo, .int s.hi]
def S5.Ok (s : S5) : Prop := Good s.f s.n s.w s.lo s.hi
/-- spans as tuples or lists -/
def SpE (K : PySem.W.Frag) (H : Hp) (s : S5) (v : V) : Prop := ∃ b, v = .ref b ∧ SqE K H b s.vs
theorem scAreSpans : FnScope ["value"] ["value"] (defScope sAreSpans) := ⟨rfl, rfl, rfl, by decide +kernel, rfl, by decide +kernel, by decide +kernel⟩
theorem scBehind : FnScope ["span"] ["span"] (defScope sBehind) := ⟨rfl, rfl, rfl, by decide +kernel, rfl, by decide +kernel, by decide +kernel⟩
theorem scRowSpan : FnScope ["row", "value"] ["row", "value"] (defScope sRowSpan) := ⟨rfl, rfl, rfl, by decide +kernel, rfl, by decide +kernel, by decide +kernel⟩
def spSpans (K : PySem.W.Frag) (T : Addr) : Sp := fun vs H Q _ => ∃ (e : Addr) (L : List S5) (xs : List V), vs = [.ref e] ∧ SqE K H e xs ∧ Paired (SpE K H) L xs ∧ (∀ s ∈ L, s.Ok) ∧ TabG H T ∧ ∀ H', ExT T H H' → Q (.bl true) H'
theorem Paired.atR {α β : Type} {F : α → β → Prop} {l : List α} {m : List β} (h : Paired F l m) {i : Nat} {x : β} (e : m[i]? = some x) : ∃ a, l[i]? = some a ∧ F a x := by
  induction h generalizing i with
  | nil => cases e
  | cons r t ih =>
    cases i with
    | zero => exact ⟨_, rfl, by cases e; exact r⟩
    | succ i => exact ih e
section
variable {P : Program} {w : World} {K : PySem.W.Frag} {mg : Str → Option Value} {base : Heap} {c T : Addr}
variable {fSp fSq fBe : Addr} {dSp dSq dBe : FuncData}
theorem SpE.ex {H H' : Hp} {s : S5} {v : V} (h : SpE K H s v) (e : Ex H H') : SpE K H' s v := by
  obtain ⟨b, rfl, q⟩ := h
  exact ⟨b, rfl, SqE.ex q e⟩
theorem ok_are_spans {f : Addr} {fd : FuncData} (M : L2.Mod K mg base) (G : Mg mg) (F : FunC K "are_spans" "are_spans" sAreSpans f fd c) (TB : TabB base mg c T)
    (F4 : Fns K mg "is_sequence" ["value"] sIsSequence fSq dSq) (F5 : Fns K mg "is_span" ["value"] sIsSpan fSp dSp) (G5 : PF P w K mg base 4 fSp dSp ["value"] pSpan) : FnOk P w K mg base CX0 6 f fd ["value"] (spSpans K T) := by
  have G4 : FnOk P w K mg base CX0 1 fSq dSq ["value"] (spPure P w base ["value"] pSequence) := (pf_is_sequence M G F4.fn).ok
  refine F.ok scAreSpans (fun vs H Q E h => ?_) (fun A outer s H vs Q E hr h => ?_)
  · obtain ⟨e, L, xs, rfl, _⟩ := h
    rfl
  · obtain ⟨e, L, xs, rfl, he, hw, hg, ht, kk⟩ := h
    refine ⟨_, pss_one (ps_ret (pe_and (pe_call G4 (hr.mono (by decide)) (by rfl) F4.mg F4.fn.kp F4.bd .nil pass0 (pa_cons (pv 0) pa_nil))
      (pe_one (pe_allQ (k := 4) (T := T) (c := c) (hr.mono (by decide)) (by rfl) G.all TB rfl (GenS.of rfl rfl (by decide +kernel) rfl rfl (by decide +kernel)) (pv 0))))), ?_⟩
    have e0 : Ev (tCall (spPure P w base ["value"] pSequence) [] E0 (tCons (tVar 0) tNil)) (start ["value"] [.ref e]) H (.bl true) := ev_call (ea_cons (ev_var rfl) ea_nil) (spPure.use rfl fun H1 e1 h ok bx => by
      obtain ⟨bb, its, rv, sq⟩ := TyG.of_sq ok (M.kin.keeps bx) (SqE.ex he e1)
      exact ⟨_, _, rfl, TyG.seq sq, by cases bb <;> rfl⟩)
    refine e0 H (Ex.refl H) _ fun H1 e1 => ⟨true, rfl, iteT ?_⟩
    have he1 := SqE.ex he e1
    have hw1 := Paired.mapP hw fun _ _ h => h.ex e1
    have ht1 := TabG.ex ht e1
    refine ⟨.ref e, rfl, e, xs, fun _ => true, rfl, he1, ht1, ?_, fun H4 t4 => ?_⟩
    · intro B' cenv g i v u hrm hs hg' hb hx hn hi rv ok
      obtain ⟨m, ns, hm⟩ := hn
      have FR : FrP K mg base B' cenv g := ⟨M, hx, by rw [hs], hg', hb, hrm.hd⟩
      obtain ⟨p, hp1, b, rfl, hb1⟩ := Paired.atR hw1 hi
      obtain ⟨bb, its, rvs, sq⟩ := seq_at ht1 ok (M.kin.keeps hx) hb1
      have val : ∀ {pos : Pos}, EV P w B' cenv g (.Name "span" pos) (.ref b) := ev_loc FR (by show cenv.scope.names.lookup _ = _; rw [hs]; rfl) ns hm rv
      exact ev_pf FR G5 hrm (by show cenv.scope.names.lookup _ = _; rw [hs]; rfl) F5.mg F5.fn.kp F5.bd (Pu.ea_cons val Pu.ea_nil) rfl fun h e => ⟨b, bb, its, p.f, p.n, p.w, p.lo, p.hi, rfl, sq.mono e, rvs, hg p (List.mem_of_getElem? hp1), rfl⟩
    · show Q (.bl ((List.range xs.length).all fun _ => true)) H4
      rw [show (List.range xs.length).all (fun _ => true) = true by simp]
      exact kk H4 (ExT.ex' e1 (ExT.of_tab t4))
/-- the row behind a span -/
def spBehind (K : PySem.W.Frag) : Sp := fun vs H Q _ => ∃ (s : S5) (v : V), vs = [v] ∧ SpE K H s v ∧ ∀ H', Ex H H' → Q (.int ((s.f : Int) + s.n)) H'
theorem ok_behind {f : Addr} {fd : FuncData} (F : Fun K "behind" "behind" sBehind f fd) : FnOk P w K mg base CX0 1 f fd ["span"] (spBehind K) := by
  refine F.ok scBehind (fun vs H Q E h => ?_) (fun cdv A outer s H vs Q E hr h => ?_)
  · obtain ⟨s, v, rfl, _⟩ := h
    rfl
  · obtain ⟨s, v, rfl, ⟨b, rfl, q⟩, kk⟩ := h
    refine ⟨_, pss_one (ps_ret (pe_op op_add (pe_ix ix_seq (pv 0) pe_int (fun _ _ => rfl)) (pe_ix ix_seq (pv 0) pe_int (fun _ _ => rfl)))), ?_⟩
    have i0 : atI s.vs ((0 : Nat) : Int) = some (V.int (s.f : Int)) := atI_nat rfl
    have i1 : atI s.vs ((1 : Nat) : Int) = some (V.int (s.n : Int)) := atI_nat rfl
    rcases q with q | q
    · exact ⟨_, rfl, .inr (.inl ⟨b, _, _, _, rfl, rfl, q, i0, _, rfl, .inr (.inl ⟨b, _, _, _, rfl, rfl, q, i1, _, _, rfl, rfl, kk H (Ex.refl H)⟩)⟩)⟩
    · exact ⟨_, rfl, .inl ⟨b, _, _, _, rfl, rfl, q, i0, _, rfl, .inl ⟨b, _, _, _, rfl, rfl, q, i1, _, _, rfl, rfl, kk H (Ex.refl H)⟩⟩⟩
/-- the span of one row -/
def spRowSpan : Sp := fun vs H Q _ => ∃ (r : Nat) (v : Int), vs = [.int (r : Int), .int v] ∧ ∀ q H', H q = none → Ex H H' → H' q = some (.tup (S5.vs ⟨r, 1, v, v, v⟩)) → Q (.ref q) H'
theorem ok_row_span {f : Addr} {fd : FuncData} (F : Fun K "row_span" "row_span" sRowSpan f fd) : FnOk P w K mg base CX0 1 f fd ["row", "value"] spRowSpan := by
  refine F.ok scRowSpan (fun vs H Q E h => ?_) (fun cdv A outer s H vs Q E hr h => ?_)
  · obtain ⟨r, v, rfl, _⟩ := h
    rfl
  · obtain ⟨r, v, rfl, kk⟩ := h
    refine ⟨_, pss_one (ps_ret (pe_tup (pa_cons (pv 0) (pa_cons pe_int (pa_cons (pv 1) (pa_cons (pv 1) (pa_cons (pv 1) pa_nil))))))), ?_⟩
    exact ⟨_, rfl, _, rfl, _, rfl, _, rfl, by show 5 ≤ sizeLine; decide, fun q hq => kk q _ hq (Ex.new hq) upd_same⟩
end
end K09
set_option Elab.async false
set_option linter.all false
set_option maxRecDepth 100000
set_option maxHeartbeats 4000000
namespace Pu
open PySem PySem.Spec PyProof.Rows L2
/-- the empty set as it is made -/
def bareSet (w : World) : Obj := { cls := .type "set", dict := none, data := .set #[] 0 (.fresh 0 0 (!w.params.followText "set-order")) }
section
variable {P : Program} {w : World} {A : Around} {E : Value → Shared → Prop} {s : Shared}
/-- set(x) of a list of ints: the way of the library's rule for tuples (SetFor), for lists -/
theorem set_of_ints {l : Addr} {xs : Array Value} (zs : List Int) {Q : Value → Shared → Prop} (free : A.handled = none) (isl : s.heap.IsList l xs) (itz : IntsAre xs.toList zs) (few : zs.length + 1 < scanBound)
    (k : ∀ (g : Heap) (tk c : Nat), SetR w g s.heap.objs.size (fun j => decide (j ∈ zs)) c → (∀ b o, s.heap.get? b = some o → g.get? b = some o) → Q (.ref s.heap.objs.size) { s with heap := g, toks := tk }) :
    wpAny (model P w) A (call (.type "set") [.ref l]) Q E s := by
  have size : xs.size = zs.length := by rw [← Array.length_toList]; exact IntsAre.length itz
  obtain ⟨c, tl, mro⟩ := F.called_set.mro
  have a1 := F.called_set.made; have a2 := F.called_set.sub
  refine wpAny_call (codeAny_of_tree ?_)
  show wpAny _ _ (callAny (.type "set") ⟨[.ref l], []⟩) _ _ _
  refine wpAny_pure ⟨Code.quiet_builtin _ (by decide +kernel), codeAny_builtin F.entry_type_call ?_⟩; rw [Around.under_plain (weight_type_call_type "set" [.ref l] []) rfl]
  have a3 := F.called_set.notType; have a4 := F.called_set.canCreate; have a5 := F.typeCall_set_1 (.ref l); repeat (any_goals (first | assumption | wp_step))
  refine codeAny_mono (code_set_led1 (.ref l) (E := E) (Q₁ := fun v t => v = .ref s.heap.objs.size ∧ t = { s with heap := s.heap.push (bareSet w) }) ⟨rfl, rfl⟩) fun r t hr => ?_
  match r, hr with
  | .error e, hr => exact hr
  | .ok (.next), hr => exact hr.elim
  | .ok (.brk), hr => exact hr.elim
  | .ok (.cont), hr => exact hr.elim
  | .ok (.ret v), hr =>
    obtain ⟨rfl, rfl⟩ := hr
    have at0 : (s.heap.push (bareSet w)).get? s.heap.objs.size = some (bareSet w) := Heap.get?_push_size _ rfl
    have ty : Shared.TypeIs { s with heap := s.heap.push (bareSet w) } (.ref s.heap.objs.size) "set" := ⟨_, at0, rfl⟩
    have b1 := F.called_set.init.lookup; have b2 := F.called_set.init.bind (.ref s.heap.objs.size); repeat (any_goals (first | assumption | wp_step))
    refine codeAny_mono (codeAny_call_builtin (R := wants (fun r t => r = .none ∧ ∃ g tk c, t = { s with heap := g, toks := tk } ∧ SetR w g s.heap.objs.size (fun j => decide (j ∈ zs)) c ∧
        (∀ b o, s.heap.get? b = some o → g.get? b = some o)) E) F.called_set.init.plain F.entry_set_init (check_set_init_1 ty ?_)) fun r2 t2 hr2 => ?_
    · obtain ⟨⟨oc, od, odt, osl⟩, ho, hc, nl, hd⟩ := isl
      dsimp only at hc hd; subst hc; subst hd
      have old : (s.heap.push (bareSet w)).get? l = some { cls := .type "list", dict := od, data := .seq xs nl, slots := osl } := Heap.get?_push_of_some _ ho
      have c1 := F.sub_list_set; have c2 := F.sub_list_frozenset; have c3 : (Value.type "list" == Value.type "dict") = false := by decide
      have isl1 : (s.heap.push (bareSet w)).IsList l xs := ⟨_, old, rfl, nl, rfl⟩
      unfold Builtin.«set.__init__» noKeywords Builtin.Frozenset.updateFrom
      generalize it : pyIter = PI; wp_walk; subst it
      refine wpAny_pyIter_list isl1 (wpAny_bind (wpAny_runValue ?_))
      have ll : l < s.heap.objs.size := Heap.lt_size ho
      have free3 : A.in1.in1.in1.handled = none := by simp [free]
      have ne : l ≠ (s.heap.push (bareSet w)).objs.size := by rw [Heap.size_push]; exact Nat.ne_of_lt (Nat.lt_succ_of_lt ll)
      have nin : s.heap.objs.size ∉ [(s.heap.push (bareSet w)).objs.size, l] := by
        rw [Heap.size_push]
        intro z
        rcases List.mem_cons.mp z with z | z
        · exact absurd z (Nat.ne_of_lt (Nat.lt_succ_self _))
        · exact absurd (List.mem_singleton.mp z) (Nat.ne_of_gt ll)
      have each : ∀ (i : Nat) (v : Value), xs[i]? = some v → ∃ k t, zs[i]? = some k ∧ v = .int k t := fun i v hv => by
        have hi : i < zs.length := by rw [← size]; exact (Array.getElem?_eq_some_iff.mp hv).1
        obtain ⟨t, e⟩ := PyProof.Rows.IntsAre.int_at itz i v (by rw [Array.getElem?_toList]; exact hv)
        exact ⟨zs[i], t, List.getElem?_eq_getElem hi, by rw [e, List.getD_eq_getElem?_getD, List.getElem?_eq_getElem hi] <;> rfl⟩
      refine set_update_ints ((Walks.list free3 _ l ne xs).toS) s.heap.objs.size nin zs size few each (xs.size - 0) 0 _ (by omega) (Nat.zero_le _) ⟨⟨_, Heap.get?_push_size _ rfl, rfl, rfl⟩, (isl1.push _)⟩ ?_ ?_
      · exact ⟨0, Nat.le_refl 0, setR_new_at (Heap.get?_push_of_some _ at0)⟩
      · intro t c' mv _ hS
        obtain ⟨g, g2, d2, k2, o2⟩ := t
        have e1 : g2 = s.gens := mv.gens
        have e2 : d2 = s.drawn := mv.drawn
        have e3 : o2 = s.os := mv.os
        subst e1 e2 e3
        show wpAny _ _ _ _ _ _
        refine wpAny_pure ?_
        show wpAny _ _ (ret Value.none) _ _ _
        refine wpAny_pure ⟨rfl, g, k2, c', rfl, hS, fun b o e => ?_⟩
        have hb : b < s.heap.objs.size := Heap.lt_size e
        refine mv.heap b o (fun z => ?_) (Heap.get?_push_of_some _ (Heap.get?_push_of_some _ e))
        rcases List.mem_cons.mp z with z | z
        · exact absurd z (Nat.ne_of_lt hb)
        · rw [Heap.size_push] at z
          exact absurd (List.mem_singleton.mp z) (Nat.ne_of_lt (Nat.lt_succ_of_lt hb))
    · match r2, hr2 with
      | .error e, hr2 => exact hr2
      | .ok (.next), hr2 => exact hr2.elim
      | .ok (.brk), hr2 => exact hr2.elim
      | .ok (.cont), hr2 => exact hr2.elim
      | .ok (.ret v), hr2 =>
        obtain ⟨rfl, g, tk, c', rfl, hS, kp⟩ := hr2
        (repeat (any_goals (first | assumption | wp_step))); exact k _ _ _ hS kp
end
end Pu
set_option Elab.async false
set_option linter.all false
set_option maxRecDepth 100000
set_option maxHeartbeats 4000000
namespace Pu
open PySem PySem.Spec PyProof.Rows L2 GxR
theorem nodup_le : ∀ {l m : List Int}, l.Nodup → (∀ x ∈ l, x ∈ m) → l.length ≤ m.length
  | [], _, _, _ => Nat.zero_le _
  | x :: l, m, hn, h => by
    have hx := h x (List.mem_cons_self ..)
    have n2 := List.nodup_cons.mp hn
    have ih := nodup_le (l := l) (m := m.erase x) n2.2 fun y hy => (List.mem_erase_of_ne (fun e => n2.1 (by rw [← e]; exact hy))).mpr (h y (List.mem_cons_of_mem _ hy))
    rw [List.length_erase_of_mem hx] at ih
    have : 0 < m.length := List.length_pos_of_mem hx
    rw [List.length_cons]
    omega
section
variable {X : Cx}
/-- sorted(set(x)), x a list of numbers below 63 -/
def tSortSet (K : PySem.W.Frag) (ta : TE) : TE := fun σ H Q => ta σ H fun x H1 => ∃ (l : Addr) (ns : List Int), x = .ref l ∧ SqL K H1 l (ns.map V.int) ∧ ns.length ≤ 4000 ∧ (∀ k ∈ ns, 0 ≤ k ∧ k < 63) ∧
  ∀ (ms : List Int) (p : Addr), ms.Pairwise (· < ·) → (∀ k : Int, k ∈ ms ↔ k ∈ ns) → H1 p = none → Q (.ref p) (upd H1 p (.lst (ms.map V.int)))
theorem setR_few {w : World} {h : Heap} {a : Addr} {ns : List Int} {c : Nat} (R : SetR w h a (fun j => decide (j ∈ ns)) c) (hb : ∀ k ∈ ns, 0 ≤ k ∧ k < 63) : c < 64 := by
  obtain ⟨o, es, ep, t, _, _, _, _, nd, mem, _, _, hn, _⟩ := R
  have h1 : (es.toList.map keyOf).length ≤ ((List.range 63).map fun i : Nat => (i : Int)).length := nodup_le nd fun k hk => by
    have := hb k (of_decide_eq_true ((mem k).mpr hk))
    exact List.mem_map.mpr ⟨k.toNat, List.mem_range.mpr (by omega), by omega⟩
  rw [List.length_map, List.length_map, List.length_range, Array.length_toList, hn] at h1
  omega
theorem sort_step {pins : List (Addr × Obj)} {s : Shared} {σ : L2.St} {H : Hp} {a : Addr} {S : Int → Bool} {c : Nat} {Q : VK} {E : Value → Shared → Prop} (hc : X.calm = true) (I : Inv X pins σ H s) (R : SetR X.w s.heap a S c) (h64 : c < 64)
    (q1 : ∀ (ms : List Int) (p : Addr), ms.Pairwise (· < ·) → (∀ k : Int, k ∈ ms ↔ S k = true) → H p = none → Q (.ref p) (upd H p (.lst (ms.map V.int)))) : wpAny (model X.prog X.w) X.A (call (.builtin "sorted") [.ref a]) (EP X pins σ Q) E s := by
  refine sorted_set R (I.ok.hd hc) h64 fun s' p out cc ms k g o hp hg' hi hs hm' hl' => ?_
  have hlt : (ms.map V.int).length ≤ sizeLine := by
    rw [List.length_map, hl', sizeLine_eq]
    omega
  have hn : H p = none := I.hok.fresh hp
  have J : Inv X pins σ (upd H p (.lst (ms.map V.int))) { s with heap := s'.heap, gens := s'.gens, drawn := s'.drawn, toks := s'.toks } := I.call (ch := []) (Un.laid k hp hn) (I.hok.laid k hp ⟨hlt, out.toList, cc, vals_of_ints hi, hg'⟩) (by rw [g]; exact I.bare) (fun _ z => nomatch z)
  have e : s' = { s with heap := s'.heap, gens := s'.gens, drawn := s'.drawn, toks := s'.toks } := by cases s'; cases s; cases o; rfl
  rw [e]
  exact ⟨.ref p, _, J, rfl, q1 ms p hs hm' hn⟩
theorem pe_sortSet {a : Expr} {ta : TE} {p p2 q pos : Pos} (hg : Gl X "sorted") (hm : X.mg "sorted" = none) (hg2 : Gl X "set") (hm2 : X.mg "set" = none) (ha : PE X a ta) (hc : X.calm = true := by rfl)
    (na : starEach [a] X.env = (false, eval a X.env) :: starEach [] X.env := by rfl) : PE X (.Call (.Name "sorted" p) [.Call (.Name "set" p2) [a] [] q] [] pos) (tSortSet X.K ta) := by
  refine ⟨fun pins s σ H Q I h => Call_ (ld_blt I hg hm boot_sorted (PyProof.Rows.callWith_builtin1 (PyProof.Rows.args_cons (Call_ (ld_blt I hg2 hm2 boot_set ?_)) rfl) rfl rfl))⟩
  refine PyProof.Rows.callWith_type1 (PyProof.Rows.args_cons (thn (ha.run pins s σ H _ I h) fun v s1 ⟨x, H1, I1, r1, q1⟩ => PyProof.Rows.args_nil ?_) na) na rfl
  obtain ⟨l, ns, rfl, hq, hl, hb, q1⟩ := q1
  cases (show v = Value.ref l from r1)
  obtain ⟨its, r, pl, hz⟩ := I1.list hq
  have hlen : its.toArray.size = ns.length := by rw [List.size_toArray, ← r.length, List.length_map]
  refine set_of_ints ns (I1.ok.hd hc) pl.isList (by simpa using RZ.intsAre_vals r) (by unfold scanBound; omega) fun h' tk c hS hk => PyProof.Rows.args_nil ?_
  have I2 : Inv X pins σ H1 { s1 with heap := h', toks := tk } := I1.kept fun b o e => hk b o e
  exact sort_step hc I2 hS (setR_few hS hb) fun ms p' hs hm' hn => q1 ms p' hs (fun k => by rw [hm' k]; exact decide_eq_true_iff) hn
end
end Pu
set_option Elab.async false
set_option linter.all false
set_option maxRecDepth 100000
set_option maxHeartbeats 4000000
namespace Pu
open PySem PySem.Spec PyProof.Rows L2 GxR Evl
def bodyOf : Stmt → List Stmt
  | .For _ _ b _ _ => b
  | .If _ b _ _ => b
  | _ => []
/-- a step of the law, told by the turn i -/
def Ti (X : Cx) (st : Stmt) (A B : Nat → L2.St → Hp → Prop) : Prop := ∃ t, PS X st t ∧ ∀ i D σ H, A i σ H → (∀ σ' H', B i σ' H' → D.nx σ' H') → t D σ H
def Tis (X : Cx) (l : List Stmt) (A B : Nat → L2.St → Hp → Prop) : Prop := ∃ t, PSs X l t ∧ ∀ i D σ H, A i σ H → (∀ σ' H', B i σ' H' → D.nx σ' H') → t D σ H
theorem Tis.cons {X : Cx} {st : Stmt} {l : List Stmt} {A B C : Nat → L2.St → Hp → Prop} (h : Ti X st A B) (k : Tis X l B C) : Tis X (st :: l) A C := by
  obtain ⟨t, h1, h2⟩ := h
  obtain ⟨u, k1, k2⟩ := k
  exact ⟨_, pss_cons h1 k1, fun i D σ H a q => h2 i { D with nx := u D } σ H a fun σ' H' b => k2 i D σ' H' b q⟩
theorem Tis.one {X : Cx} {st : Stmt} {A B : Nat → L2.St → Hp → Prop} (h : Ti X st A B) : Tis X [st] A B := by
  obtain ⟨t, h1, h2⟩ := h
  exact ⟨_, pss_one h1, h2⟩
theorem wipe1 {σ : L2.St} {j : Nat} {x : Option V} : wipe ((wipe σ [j]).set j x) [j] = wipe σ [j] := by
  show ((σ.set j none).set j x).set j none = σ.set j none
  rw [List.set_set, List.set_set]
theorem wipe_at {σ : L2.St} {j : Nat} {x : V} (h : j < σ.length) : ((wipe σ [j]).set j (some x))[j]? = some (some x) := sl_eq (by show j < (σ.set j none).length; rw [List.length_set]; exact h)
theorem wipe_ne {σ : L2.St} {i j : Nat} {x : Option V} {y : V} (h : σ[i]? = some (some y)) (n : j ≠ i) : ((wipe σ [j]).set j x)[i]? = some (some y) := sl_ne (sl_ne h n) n
theorem wipe_len {σ : L2.St} {j : Nat} {x : Option V} : ((wipe σ [j]).set j x).length = σ.length := by
  rw [List.length_set]
  show (σ.set j none).length = _
  rw [List.length_set]
theorem Sm.intI {a : Int} (h0 : 0 ≤ a) (h : a ≤ 1000000) : Sm 0 0 (.int a) := by
  obtain ⟨n, rfl⟩ := Int.eq_ofNat_of_zero_le h0
  exact Sm.int (by omega)
/-- a comprehension whose turns may change the heap: an invariant of the turn, the heap, what is made -/
theorem lc_inv {J : It} {n : Nat} {G : Hp → Prop} {Y : Nat → Hp → V → Hp → Prop} (w : Walk J n G Y) {g : TG} {tt : TT} {te : TE} {vs : List Nat} {σ : L2.St} {H1 : Hp} {D : Addr} {Qd : Hp → Prop} (R : Nat → Hp → List V → Prop) (hn : n ≤ 40000)
    (h0 : R 0 (upd H1 D (.lst [])) []) (hG : ∀ i H acc, R i H acc → G H)
    (turn : ∀ i x H H' acc, i < n → H D = some (.lst acc) → R i H acc → Y i H x H' → ∀ (Qy : V → Hp → Prop) (Qn : Hp → Prop), (∀ y H4, H4 D = some (.lst acc) → R (i + 1) (upd H4 D (.lst (acc ++ [y]))) (acc ++ [y]) → Qy y H4) → (∀ H3, H3 D = some (.lst acc) → R (i + 1) H3 acc → Qn H3) →
      g x (wipe σ vs) H' fun σ2 H2 => wipe σ2 vs = wipe σ vs ∧ tt σ2 H2 fun b H3 => if b = true then te σ2 H3 Qy else Qn H3)
    (hd : ∀ H acc, H D = some (.lst acc) → R n H acc → Qd H) :
    ∃ W : Nat → Nat → Hp → Prop, (∃ m, W 0 m (upd H1 D (.lst []))) ∧ ∀ i m H, W i m H →
      (J.stop i H ∧ Qd H) ∨ (J.go i H ∧ ∃ Nx : Hp → Prop, (∀ H', Nx H' → ∃ m', m' < m ∧ W (i + 1) m' H') ∧ ∀ x H', J.yld i H x H' → g x (wipe σ vs) H' fun σ2 H2 => wipe σ2 vs = wipe σ vs ∧ tt σ2 H2 fun b H3 =>
        if b = true then te σ2 H3 fun y H4 => ∃ acc, H4 D = some (.lst acc) ∧ acc.length < sizeLine ∧ Nx (upd H4 D (.lst (acc ++ [y]))) else Nx H3) := by
  refine lc_it w (fun i H => ∃ acc, H D = some (.lst acc) ∧ acc.length ≤ i ∧ R i H acc) ⟨[], upd_same, Nat.le_refl _, h0⟩ (fun i H _ p => ?_) (fun i x H H' hi p y => ?_) fun H p => ?_
  · obtain ⟨acc, _, _, r⟩ := p
    exact hG i H acc r
  · obtain ⟨acc, hH, hl, hR⟩ := p
    refine turn i x H H' acc hi hH hR y _ _ (fun v H4 h4 r4 => ?_) fun H3 h3 r3 => ⟨acc, h3, Nat.le_succ_of_le hl, r3⟩
    refine ⟨acc, h4, Nat.lt_of_le_of_lt (show acc.length ≤ 40000 by omega) (by decide), acc ++ [v], upd_same, ?_, r4⟩
    rw [List.length_append, List.length_singleton]
    omega
  · obtain ⟨acc, hH, _, hR⟩ := p
    exact hd H acc hH hR
end Pu
set_option Elab.async false
set_option linter.all false
set_option maxRecDepth 100000
set_option maxHeartbeats 4000000
namespace Pu
open PySem PySem.Spec PyProof.Rows L2 GxR Evl
theorem one_col {r : List V → Hp → VK → Prop} {te : TE} {σ : L2.St} {H : Hp} {Q : VK} (h : te σ H fun x H1 => r [x] H1 Q) : tCB r (tCons te tNil) σ H Q := h
end Pu
namespace K09
open PySem PySem.Spec PyProof.Rows L2 GxR Pu Evl
theorem scSpanOfAll : FnScope ["spans", "wholes", "low", "high", "span"] ["spans"] (defScope sSpanOfAll) := ⟨rfl, rfl, rfl, by decide +kernel, rfl, by decide +kernel, by decide +kernel⟩
/-- all spans of a sequence, told as one -/
def spAll (K : PySem.W.Frag) : Sp := fun vs H Q _ => ∃ (e : Addr) (L : List S5) (xs : List V) (s0 s1 : S5), vs = [.ref e] ∧ SqE K H e xs ∧ Paired (SpE K H) L xs ∧ L.length ≤ 2000 ∧ L[0]? = some s0 ∧ L[L.length - 1]? = some s1 ∧
  ∀ lo hi q H', lo ∈ L.map S5.lo → (∀ y ∈ L.map S5.lo, lo ≤ y) → hi ∈ L.map S5.hi → (∀ y ∈ L.map S5.hi, y ≤ hi) → H q = none → Ex H H' →
    H' q = some (.tup [.int (s0.f : Int), .int ((s1.f : Int) + s1.n - s0.f), .int (L.map S5.w).sum, .int lo, .int hi]) → Q (.ref q) H'
theorem atI_last {xs : List V} {v : V} (h : xs[xs.length - 1]? = some v) : atI xs (-1) = some v := by
  have hl : 0 < xs.length := by
    cases xs with
    | nil => cases h
    | cons _ _ => exact Nat.succ_pos _
  unfold atI ixN
  rw [if_neg (by omega), if_pos (by omega)]
  show xs[((xs.length : Int) + -1).toNat]? = some v
  rw [show ((xs.length : Int) + -1).toNat = xs.length - 1 by omega]
  exact h
section
variable {P : Program} {w : World} {K : PySem.W.Frag} {mg : Str → Option Value} {base : Heap} {σ : L2.St} {H : Hp}
variable {fBe : Addr} {dBe : FuncData}
/-- x[j] of a span -/
theorem rd_ix {s : S5} {v x : V} {j : Nat} {Q : VK} (h : SpE K H s v) (hx : s.vs[j]? = some x) (q : Q x H) : rIx K v (.int (j : Int)) H Q := by
  obtain ⟨b, rfl, q1 | q1⟩ := h
  · exact .inr (.inl ⟨b, _, _, _, rfl, rfl, q1, atI_nat hx, q⟩)
  · exact .inl ⟨b, _, _, _, rfl, rfl, q1, atI_nat hx, q⟩
/-- [span[j] for span in spans] -/
theorem q_col {e : Addr} {L : List S5} {xs : List V} {j : Nat} {g : S5 → Int} (len : σ.length = 5) (h0 : σ[0]? = some (some (.ref e))) (he : SqE K H e xs) (hw : Paired (SpE K H) L xs) (hl : L.length ≤ 2000) (hg : ∀ s : S5, s.vs[j]? = some (V.int (g s))) {Q : VK}
    (k : ∀ D H', Ex H H' → H' D = some (.lst ((L.map g).map V.int)) → Q (.ref D) H') : tLc (iSeq K (tVar 0)) (gName 4) tYes (tOp (rIx K) (tVar 4) (tC (.int (j : Int)))) [4] σ H Q := by
  have hxl : L.length = xs.length := Paired.length hw
  refine ⟨.ref e, h0, e, xs, rfl, he, fun J Gd wk hG D' hD => ?_⟩
  refine lc_gen wk (fun m H' acc => acc = ((L.take m).map g).map V.int) (by omega) hD (fun m H xs ys acc h r => r) rfl hG ?_ ?_
  · intro m y Ha Hb acc hi ex yy hR Qy Qn hy hn
    obtain ⟨rfl, hx⟩ := yy
    obtain ⟨s, hs, hp⟩ := Paired.atR hw hx
    have tk : L.take (m + 1) = L.take m ++ [s] := by rw [List.take_add_one, hs]; rfl
    refine ⟨wipe1, yes_then ⟨_, wipe_at (by rw [len]; decide), rd_ix (hp.ex ex) (hg s) (hy _ _ (Ex.refl _) ?_)⟩⟩
    rw [tk, hR, List.map_append, List.map_append]
    rfl
  · intro H4 acc e4 hD4 hR
    rw [← hxl, List.take_length] at hR
    exact k D' H4 e4 (by rw [hD4, hR])
theorem ok_span_of_all {f : Addr} {fd : FuncData} (G : Mg mg) (hsum : mg "sum" = none) (F : Fun K "span_of_all" "span_of_all" sSpanOfAll f fd) (F1 : Fns K mg "behind" ["span"] sBehind fBe dBe) : FnOk P w K mg base CX0 2 f fd ["spans"] (spAll K) := by
  have G1 : FnOk P w K mg base CX0 1 fBe dBe ["span"] (spBehind K) := ok_behind F1.fn
  refine F.ok scSpanOfAll (fun vs H Q E h => ?_) (fun cdv A outer s H vs Q E hr h => ?_)
  · obtain ⟨e, L, xs, s0, s1, rfl, _⟩ := h
    rfl
  · obtain ⟨e, L, xs, s0, s1, rfl, he, hw, hl, h0, h1, kk⟩ := h
    refine ⟨_, pss_cons (ps_set (i := 1) scSpanOfAll.nd rfl (.inl rfl) (pe_callB (cr_sum rfl) (by rfl) hsum boot_sum (pa_cons (pe_lc (own := [("span", 4)]) (te := tOp (rIx K) (tVar 4) (tC (.int 2))) (by rfl) scSpanOfAll.nd (pi_seq (pv 0)) (blkOk_by (own := [("span", 4)]) (N := ["spans", "wholes", "low", "high", "span"]) (sc := defScope sSpanOfAll) (by decide +kernel))
            (fun _ _ _ _ _ => pg_name (i := 4) scSpanOfAll.nd rfl (.inl rfl)) (fun _ _ _ _ _ => pts_nil) (fun _ _ _ _ _ => pe_ix ix_seq (pv 4) pe_int (fun _ _ => rfl))) pa_nil)))
      (pss_cons (ps_set (i := 2) scSpanOfAll.nd rfl (.inl rfl) (pe_callB (cr_min rfl) (by rfl) G.min boot_min (pa_cons (pe_lc (own := [("span", 4)]) (te := tOp (rIx K) (tVar 4) (tC (.int 3))) (by rfl) scSpanOfAll.nd (pi_seq (pv 0)) (blkOk_by (own := [("span", 4)]) (N := ["spans", "wholes", "low", "high", "span"]) (sc := defScope sSpanOfAll) (by decide +kernel))
            (fun _ _ _ _ _ => pg_name (i := 4) scSpanOfAll.nd rfl (.inl rfl)) (fun _ _ _ _ _ => pts_nil) (fun _ _ _ _ _ => pe_ix ix_seq (pv 4) pe_int (fun _ _ => rfl))) pa_nil)))
      (pss_cons (ps_set (i := 3) scSpanOfAll.nd rfl (.inl rfl) (pe_callB (cr_max rfl) (by rfl) G.max boot_max (pa_cons (pe_lc (own := [("span", 4)]) (te := tOp (rIx K) (tVar 4) (tC (.int 4))) (by rfl) scSpanOfAll.nd (pi_seq (pv 0)) (blkOk_by (own := [("span", 4)]) (N := ["spans", "wholes", "low", "high", "span"]) (sc := defScope sSpanOfAll) (by decide +kernel))
            (fun _ _ _ _ _ => pg_name (i := 4) scSpanOfAll.nd rfl (.inl rfl)) (fun _ _ _ _ _ => pts_nil) (fun _ _ _ _ _ => pe_ix ix_seq (pv 4) pe_int (fun _ _ => rfl))) pa_nil)))
      (pss_one (ps_ret (pe_tup (pa_cons (pe_ix ix_seq (pe_ix ix_seq (pv 0) pe_int (fun _ _ => rfl)) pe_int (fun _ _ => rfl)) (pa_cons (pe_op op_sub (pe_call G1 hr (by rfl) F1.mg F1.fn.kp F1.bd .nil pass0 (pa_cons (pe_ix ix_seq (pv 0) (pe_un un_neg pe_int) (fun _ _ => rfl)) pa_nil))
          (pe_ix ix_seq (pe_ix ix_seq (pv 0) pe_int (fun _ _ => rfl)) pe_int (fun _ _ => rfl))) (pa_cons (pv 1) (pa_cons (pv 2) (pa_cons (pv 3) pa_nil)))))))))), ?_⟩
    have ne : 0 < L.length := (List.getElem?_eq_some_iff.mp h0).1
    have hxl : L.length = xs.length := Paired.length hw
    have mapne : ∀ g : S5 → Int, 0 < (L.map g).length := fun g => by rw [List.length_map]; exact ne
    refine Pu.one_col (q_col (g := S5.w) (j := 2) rfl rfl he hw hl (fun s => rfl) fun D1 H1 e1 d1 => ⟨D1, L.map S5.w, rfl, SqL.of d1, ?_⟩)
    refine Pu.one_col (q_col (g := S5.lo) (j := 3) rfl rfl (SqE.ex he e1) (Paired.mapP hw fun _ _ h => h.ex e1) hl (fun s => rfl) fun D2 H2 e2 d2 => ⟨D2, L.map S5.lo, rfl, SqL.of d2, mapne _, fun lo l1 l2 => ?_⟩)
    have e12 := e1.trans e2
    refine Pu.one_col (q_col (g := S5.hi) (j := 4) rfl rfl (SqE.ex he e12) (Paired.mapP hw fun _ _ h => h.ex e12) hl (fun s => rfl) fun D3 H3 e3 d3 => ⟨D3, L.map S5.hi, rfl, SqL.of d3, mapne _, fun hi l3 l4 => ?_⟩)
    have e13 := e12.trans e3
    have he3 := SqE.ex he e13
    have hw3 := Paired.mapP hw fun _ _ h => h.ex e13
    have first : ∀ {H5 : Hp} {Q : VK}, Ex H3 H5 → (∀ x, SpE K H5 s0 x → Q x H5) → rIx K (.ref e) (.int (0 : Int)) H5 Q := fun {H5 Q} e5 k => by
      obtain ⟨x, hx, p⟩ : ∃ x, xs[0]? = some x ∧ SpE K H3 s0 x := by
        have l0 : 0 < xs.length := by omega
        obtain ⟨s, hs, p⟩ := Paired.atR hw3 (List.getElem?_eq_getElem l0)
        rw [h0] at hs
        cases hs
        exact ⟨_, List.getElem?_eq_getElem l0, p⟩
      have a0 : atI xs ((0 : Nat) : Int) = some x := atI_nat hx
      rcases SqE.ex he3 e5 with q | q
      · exact .inr (.inl ⟨e, _, _, _, rfl, rfl, q, a0, k x (p.ex e5)⟩)
      · exact .inl ⟨e, _, _, _, rfl, rfl, q, a0, k x (p.ex e5)⟩
    have last : ∀ {Q : VK}, (∀ x, SpE K H3 s1 x → Q x H3) → rIx K (.ref e) (.int (-1)) H3 Q := fun {Q} k => by
      obtain ⟨x, hx, p⟩ : ∃ x, xs[xs.length - 1]? = some x ∧ SpE K H3 s1 x := by
        have l0 : xs.length - 1 < xs.length := by omega
        obtain ⟨s, hs, p⟩ := Paired.atR hw3 (List.getElem?_eq_getElem l0)
        rw [← hxl, h1] at hs
        cases hs
        exact ⟨_, List.getElem?_eq_getElem l0, p⟩
      have a0 : atI xs (-1) = some x := atI_last hx
      rcases he3 with q | q
      · exact .inr (.inl ⟨e, _, _, _, rfl, rfl, q, a0, k x p⟩)
      · exact .inl ⟨e, _, _, _, rfl, rfl, q, a0, k x p⟩
    refine ⟨.ref e, rfl, first (Ex.refl H3) fun x px => rd_ix (j := 0) px rfl ?_⟩
    refine ⟨.ref e, rfl, 1, rfl, last fun y py => ⟨s1, y, rfl, py, fun H4 e4 => ?_⟩⟩
    refine ⟨.ref e, rfl, first e4 fun x5 px5 => rd_ix (j := 0) px5 rfl ⟨_, _, rfl, rfl, _, rfl, _, rfl, _, rfl, by show 5 ≤ sizeLine; decide, fun q hq => ?_⟩⟩
    exact kk lo hi q _ l1 l2 l3 l4 (fresh_back (e13.trans e4) hq) (e13.trans (e4.trans (Ex.new hq))) upd_same
end
end K09
set_option Elab.async false
set_option linter.all false
set_option maxRecDepth 100000
set_option maxHeartbeats 4000000
namespace K09
open PySem PySem.Spec PyProof.Rows L2 GxR Pu Evl
theorem scJoin : FnScope ["one", "other"] ["one", "other"] (defScope sJoin) := ⟨rfl, rfl, rfl, by decide +kernel, rfl, by decide +kernel, by decide +kernel⟩
/-- two spans side by side, told as one -/
def S5.join (s t : S5) : S5 := ⟨s.f, s.n + t.n, s.w + t.w, min s.lo t.lo, max s.hi t.hi⟩
def spJoin (K : PySem.W.Frag) : Sp := fun vs H Q _ => ∃ (s t : S5) (v u : V), vs = [v, u] ∧ SpE K H s v ∧ SpE K H t u ∧ s.Ok ∧ t.Ok ∧ t.n = s.n ∧ t.f = s.f + s.n ∧ ∀ q H', H q = none → Ex H H' → H' q = some (.tup (s.join t).vs) → Q (.ref q) H'
section
variable {P : Program} {w : World} {K : PySem.W.Frag} {mg : Str → Option Value} {base : Heap} {σ : L2.St} {H : Hp}
variable {fBe fSp fAl : Addr} {dBe dSp dAl : FuncData}
theorem ev_span {x : Nat} {s : S5} {v : V} (M : L2.Mod K mg base) (hv : σ[x]? = some (some v)) (h : SpE K H s v) (ok : s.Ok) : Ev (tCall (spPure P w base ["value"] pSpan) [] E0 (tCons (tVar x) tNil)) σ H (.bl true) :=
  ev_call (ea_cons (ev_var hv) ea_nil) (spPure.use rfl fun H1 e1 g okk bx => by
    obtain ⟨b, rfl, q⟩ := h.ex e1
    obtain ⟨bb, its, rv, sq⟩ := TyG.of_sq okk (M.kin.keeps bx) q
    exact ⟨b, bb, its, s.f, s.n, s.w, s.lo, s.hi, rfl, sq, rv, ok, rfl⟩)
theorem ok_join {f : Addr} {fd : FuncData} (M : L2.Mod K mg base) (F : Fun K "join" "join" sJoin f fd) (F1 : Fns K mg "is_span" ["value"] sIsSpan fSp dSp) (G1 : PF P w K mg base 4 fSp dSp ["value"] pSpan) (F2 : Fns K mg "behind" ["span"] sBehind fBe dBe)
    (F3 : Fns K mg "span_of_all" ["spans"] sSpanOfAll fAl dAl) (G3 : FnOk P w K mg base CX0 2 fAl dAl ["spans"] (spAll K)) : FnOk P w K mg base CX0 5 f fd ["one", "other"] (spJoin K) := by
  have G1' : FnOk P w K mg base CX0 4 fSp dSp ["value"] (spPure P w base ["value"] pSpan) := G1.ok
  have G2 : FnOk P w K mg base CX0 1 fBe dBe ["span"] (spBehind K) := ok_behind F2.fn
  refine F.ok scJoin (fun vs H Q E h => ?_) (fun cdv A outer s H vs Q E hr h => ?_)
  · obtain ⟨s, t, v, u, rfl, _⟩ := h
    rfl
  · obtain ⟨s, t, v, u, rfl, hs, ht, os, ot, en, ef, kk⟩ := h
    refine ⟨_, pss_cons (ps_if (pt_not (pt_val (pe_call G1' hr (by rfl) F1.mg F1.fn.kp F1.bd .nil pass0 (pa_cons (pv 0) pa_nil)))) pss_never pss_nil)
      (pss_cons (ps_if (PW.pt (pw_or (pt_not (pt_val (pe_call G1' hr (by rfl) F1.mg F1.fn.kp F1.bd .nil pass0 (pa_cons (pv 1) pa_nil)))) (pw_or (pt_cmpR op_ne (pe_ix ix_seq (pv 1) pe_int (fun _ _ => rfl)) (pe_ix ix_seq (pv 0) pe_int (fun _ _ => rfl)) (nomark _))
        (pw_or1 (pt_cmpR op_ne (pe_ix ix_seq (pv 1) pe_int (fun _ _ => rfl)) (pe_call G2 (hr.mono (by decide)) (by rfl) F2.mg F2.fn.kp F2.bd .nil pass0 (pa_cons (pv 0) pa_nil)) (nomark _)))))) pss_never pss_nil)
      (pss_one (ps_ret (pe_call G3 (hr.mono (by decide)) (by rfl) F3.mg F3.fn.kp F3.bd .nil pass0 (pa_cons (pe_tup (pa_cons (pv 0) (pa_cons (pv 1) pa_nil))) pa_nil))))), ?_⟩
    refine ev_span M rfl hs os H (Ex.refl H) _ fun H1 e1 => ⟨true, rfl, ite2 (fun z => nomatch z) fun _ => ?_⟩
    refine ev_span M rfl (ht.ex e1) ot H1 (Ex.refl H1) _ fun H2 e2 => ⟨true, rfl, ite2 (fun z => nomatch z) fun _ => ?_⟩
    have e12 := e1.trans e2
    refine ⟨_, rfl, rd_ix (j := 1) (ht.ex e12) rfl ⟨_, rfl, rd_ix (j := 1) (hs.ex e12) rfl ⟨rfl, _, rfl, ite2 (fun z => absurd z (by rw [en]; simp)) fun _ => ?_⟩⟩⟩
    refine ⟨_, rfl, rd_ix (j := 0) (ht.ex e12) rfl ⟨_, rfl, s, v, rfl, hs.ex e12, fun H3 e3 => ⟨rfl, _, rfl, ite2 (fun z => absurd z (by rw [ef]; simp)) fun _ => ?_⟩⟩⟩
    have e13 := e12.trans e3
    refine ⟨_, rfl, _, rfl, by show 2 ≤ sizeLine; decide, fun r hr => ?_⟩
    have e4 := Ex.new hr (o := .tup [v, u])
    have e14 := e13.trans e4
    refine ⟨r, [s, t], [v, u], s, t, rfl, .inl (SqT.of upd_same), .cons (hs.ex e14) (.cons (ht.ex e14) .nil), by show 2 ≤ 2000; decide, rfl, rfl, fun lo hi q H5 m1 m2 m3 m4 hq e5 h5 => ?_⟩
    have l1 : lo = min s.lo t.lo := by
      have a := m2 s.lo (by simp)
      have b := m2 t.lo (by simp)
      have c : lo = s.lo ∨ lo = t.lo := by simpa using m1
      omega
    have l2 : hi = max s.hi t.hi := by
      have a := m4 s.hi (by simp)
      have b := m4 t.hi (by simp)
      have c : hi = s.hi ∨ hi = t.hi := by simpa using m3
      omega
    refine kk q H5 (fresh_back e14 hq) (e14.trans e5) ?_
    rw [h5, l1, l2]
    have n1 : ((t.f : Int) + t.n - s.f) = ((s.n + t.n : Nat) : Int) := by omega
    have w1 : ([s, t].map S5.w).sum = s.w + t.w := by simp
    rw [n1, w1]
    rfl
end
end K09
set_option Elab.async false
set_option linter.all false
set_option maxRecDepth 100000
set_option maxHeartbeats 4000000
namespace K09
open PySem PySem.Spec PyProof.Rows L2 GxR Pu Evl
theorem scEmpty : FnScope [] [] (defScope sEmptyStore) := ⟨rfl, rfl, rfl, by decide +kernel, rfl, by decide +kernel, by decide +kernel⟩
theorem scShapeOf : FnScope ["store", "span"] ["store"] (defScope sShapeOf) := ⟨rfl, rfl, rfl, by decide +kernel, rfl, by decide +kernel, by decide +kernel⟩
theorem scLetGo : FnScope ["store", "below", "laid", "last", "spans", "span"] ["store", "below"] (defScope sLetGo) := ⟨rfl, rfl, rfl, by decide +kernel, rfl, by decide +kernel, by decide +kernel⟩
def nonV : Option Nat → V
  | none => .non
  | some n => .int (n : Int)
def SpT (H : Hp) (s : S5) (v : V) : Prop := ∃ b, v = .ref b ∧ H b = some (.tup s.vs)
/-- a store as tuples -/
def StT (H : Hp) (l : Nat) (la : Option Nat) (L : List S5) (v : V) : Prop := ∃ a e xs, v = .ref a ∧ H a = some (.tup [.int (l : Int), nonV la, .ref e]) ∧ H e = some (.tup xs) ∧ Paired (SpT H) L xs
/-- a store as tuples or lists -/
def StE (K : PySem.W.Frag) (H : Hp) (l : Nat) (la : Option Nat) (L : List S5) (v : V) : Prop := ∃ a e xs, v = .ref a ∧ SqE K H a [.int (l : Int), nonV la, .ref e] ∧ SqE K H e xs ∧ Paired (SpE K H) L xs
section
variable {P : Program} {w : World} {K : PySem.W.Frag} {mg : Str → Option Value} {base : Heap} {σ : L2.St} {H H' : Hp}
variable {fBe fNN fNum fInt : Addr} {dBe dNN dNum dInt : FuncData}
theorem SpT.ex {s : S5} {v : V} (h : SpT H s v) (e : Ex H H') : SpT H' s v := by
  obtain ⟨b, rfl, q⟩ := h
  exact ⟨b, rfl, e _ _ q⟩
theorem SpT.e {s : S5} {v : V} (h : SpT H s v) : SpE K H s v := by
  obtain ⟨b, rfl, q⟩ := h
  exact ⟨b, rfl, .inl (SqT.of q)⟩
theorem StT.ex {l : Nat} {la : Option Nat} {L : List S5} {v : V} (h : StT H l la L v) (e : Ex H H') : StT H' l la L v := by
  obtain ⟨a, b, xs, rfl, h1, h2, h3⟩ := h
  exact ⟨a, b, xs, rfl, e _ _ h1, e _ _ h2, Paired.mapP h3 fun _ _ h => h.ex e⟩
theorem StT.e {l : Nat} {la : Option Nat} {L : List S5} {v : V} (h : StT H l la L v) : StE K H l la L v := by
  obtain ⟨a, b, xs, rfl, h1, h2, h3⟩ := h
  exact ⟨a, b, xs, rfl, .inl (SqT.of h1), .inl (SqT.of h2), Paired.mapP h3 fun _ _ h => h.e⟩
theorem StE.ex {l : Nat} {la : Option Nat} {L : List S5} {v : V} (h : StE K H l la L v) (e : Ex H H') : StE K H' l la L v := by
  obtain ⟨a, b, xs, rfl, h1, h2, h3⟩ := h
  exact ⟨a, b, xs, rfl, SqE.ex h1 e, SqE.ex h2 e, Paired.mapP h3 fun _ _ h => h.ex e⟩
def spEmpty : Sp := fun vs H Q _ => vs = [] ∧ ∀ v H', Ex H H' → StT H' 0 none [] v → Q v H'
theorem ok_empty {f : Addr} {fd : FuncData} (F : Fun K "empty_store" "empty_store" sEmptyStore f fd) : FnOk P w K mg base CX0 1 f fd [] spEmpty := by
  refine F.ok scEmpty (fun vs H Q E h => ?_) (fun cdv A outer s H vs Q E hr h => ?_)
  · obtain ⟨rfl, _⟩ := h
    rfl
  · obtain ⟨rfl, kk⟩ := h
    refine ⟨_, pss_one (ps_ret (pe_tup (pa_cons pe_int (pa_cons pe_non (pa_cons (pe_tup pa_nil) pa_nil))))), ?_⟩
    refine ⟨by show 0 ≤ sizeLine; decide, fun q hq => ⟨by show 3 ≤ sizeLine; decide, fun r hr => kk _ _ ((Ex.new hq).trans (Ex.new hr)) ⟨r, q, [], rfl, upd_same, Ex.new hr _ _ upd_same, .nil⟩⟩⟩
/-- what a store tells of its spans -/
def spShapeOf (K : PySem.W.Frag) : Sp := fun vs H Q _ => ∃ (l : Nat) (la : Option Nat) (L : List S5) (v : V), vs = [v] ∧ StE K H l la L v ∧ L.length ≤ 2000 ∧ ∀ q xs H', H q = none → Ex H H' → H' q = some (.tup xs) → PrT H' (L.map fun s => (s.f, s.n)) xs → Q (.ref q) H'
theorem ok_shape_of {f : Addr} {fd : FuncData} (G : Mg mg) (F : Fun K "shape_of" "shape_of" sShapeOf f fd) : FnOk P w K mg base CX0 1 f fd ["store"] (spShapeOf K) := by
  refine F.ok scShapeOf (fun vs H Q E h => ?_) (fun cdv A outer s H vs Q E hr h => ?_)
  · obtain ⟨l, la, L, v, rfl, _⟩ := h
    rfl
  · obtain ⟨l, la, L, v, rfl, hs, hl, kk⟩ := h
    obtain ⟨a, e, xs, rfl, ha, he, hw⟩ := hs
    refine ⟨_, pss_one (ps_ret (pe_callTy (T := "tuple") call_tuple_of (by rfl) G.tuple (by decide +kernel) (pa_cons (pe_lc (own := [("span", 1)]) (te := tTup (tCons (tOp (rIx K) (tVar 1) (tC (.int 0))) (tCons (tOp (rIx K) (tVar 1) (tC (.int 1))) tNil))) (by rfl) scShapeOf.nd
      (pi_seq (pe_ix ix_seq (pv 0) pe_int (fun _ _ => rfl))) (blkOk_by (own := [("span", 1)]) (N := ["store", "span"]) (sc := defScope sShapeOf) (by decide +kernel)) (fun _ _ _ _ _ => pg_name (i := 1) scShapeOf.nd rfl (.inl rfl)) (fun _ _ _ _ _ => pts_nil)
      (fun _ _ _ _ _ => pe_tup (pa_cons (pe_ix ix_seq (pv 1) pe_int (fun _ _ => rfl)) (pa_cons (pe_ix ix_seq (pv 1) pe_int (fun _ _ => rfl)) pa_nil)))) pa_nil))), ?_⟩
    have hxl : L.length = xs.length := Paired.length hw
    have i2 : atI [V.int (l : Int), nonV la, .ref e] ((2 : Nat) : Int) = some (.ref e) := atI_nat rfl
    have main : ∀ {Qx : VK}, (Qx (.ref e) H) → rIx K (.ref a) (.int 2) H Qx := fun {Qx} k => by
      rcases ha with q | q
      · exact .inr (.inl ⟨a, _, _, _, rfl, rfl, q, i2, k⟩)
      · exact .inl ⟨a, _, _, _, rfl, rfl, q, i2, k⟩
    refine ⟨.ref a, rfl, main ⟨e, xs, rfl, he, fun J Gd wk hG D hD => ?_⟩⟩
    refine lc_gen wk (fun m H' acc => (∃ z, H' D = some (.lst z)) ∧ Paired (fun (p : Nat × Nat) (v : V) => ∃ b, v = .ref b ∧ b ≠ D ∧ H' b = some (.tup [.int (p.1 : Nat), .int (p.2 : Nat)])) ((L.take m).map fun s => (s.f, s.n)) acc) (by omega) hD (fun m H' xs ys acc h r => ?_) ⟨⟨[], upd_same⟩, .nil⟩ hG ?_ ?_
    · exact ⟨⟨ys, upd_same⟩, Paired.mapP r.2 fun p v ⟨b, h1, h2, h3⟩ => ⟨b, h1, h2, by rw [upd_ne h2]; exact h3⟩⟩
    · intro m y Ha Hb acc hi ex yy hR Qy Qn hy hn
      obtain ⟨rfl, hx⟩ := yy
      obtain ⟨⟨z, hz⟩, hR⟩ := hR
      obtain ⟨s, hs, hp⟩ := Paired.atR hw hx
      have tk : L.take (m + 1) = L.take m ++ [s] := by rw [List.take_add_one, hs]; rfl
      have px := hp.ex ex
      refine ⟨wipe1, yes_then ⟨_, wipe_at (by show 1 < 2; decide), rd_ix (j := 0) px rfl ⟨_, wipe_at (by show 1 < 2; decide), rd_ix (j := 1) px rfl ⟨by show 2 ≤ sizeLine; decide, fun r hr => hy _ _ (Ex.new hr) ?_⟩⟩⟩⟩
      rw [tk, List.map_append]
      exact ⟨⟨z, Ex.new hr _ _ hz⟩, Paired.app (Paired.mapP hR fun p v ⟨b, h1, h2, h3⟩ => ⟨b, h1, h2, Ex.new hr _ _ h3⟩) (.cons ⟨r, rfl, (fun e => by rw [e, hz] at hr; cases hr), upd_same⟩ .nil)⟩
    · intro H4 acc e4 hD4 hR
      rw [← hxl, List.take_length] at hR
      refine ⟨D, acc, rfl, .inl ⟨SqL.of hD4, fun q hq => ?_⟩⟩
      have e5 := Ex.new hq (o := .tup acc)
      exact kk q acc _ (fresh_back e4 hq) (e4.trans e5) upd_same (Paired.mapP hR.2 fun p v ⟨b, h1, h2, h3⟩ => ⟨b, h1, e5 _ _ h3⟩)
end
end K09
set_option Elab.async false
set_option linter.all false
set_option maxRecDepth 100000
set_option maxHeartbeats 4000000
namespace K09
open PySem PySem.Spec PyProof.Rows L2 GxR Pu Evl
/-- the spans that stay -/
def stay (L : List S5) (b : Nat) : List S5 := L.filter fun s => decide ((s.f : Int) + s.n > (b : Int))
def LT (H : Hp) (q : Addr) (xs : List V) : Prop := H q = some (.lst xs) ∨ H q = some (.tup xs)
def SpH (H : Hp) (s : S5) (v : V) : Prop := ∃ b, v = .ref b ∧ LT H b s.vs
/-- a store of the law's own, as tuples or lists -/
def StH (H : Hp) (l : Nat) (la : Option Nat) (L : List S5) (v : V) : Prop := ∃ a e xs, v = .ref a ∧ LT H a [.int (l : Int), nonV la, .ref e] ∧ LT H e xs ∧ Paired (SpH H) L xs
section
variable {P : Program} {w : World} {K : PySem.W.Frag} {mg : Str → Option Value} {base : Heap} {σ : L2.St} {H H' : Hp}
variable {fBe fNN fNum fInt : Addr} {dBe dNN dNum dInt : FuncData}
theorem LT.ex {q : Addr} {xs : List V} (h : LT H q xs) (e : Ex H H') : LT H' q xs := h.imp (e _ _) (e _ _)
theorem LT.e {q : Addr} {xs : List V} (h : LT H q xs) : SqE K H q xs := h.symm.imp SqT.of SqL.of
theorem SpH.ex {s : S5} {v : V} (h : SpH H s v) (e : Ex H H') : SpH H' s v := by
  obtain ⟨b, rfl, q⟩ := h
  exact ⟨b, rfl, q.ex e⟩
theorem SpH.e {s : S5} {v : V} (h : SpH H s v) : SpE K H s v := by
  obtain ⟨b, rfl, q⟩ := h
  exact ⟨b, rfl, q.e⟩
theorem StT.h {l : Nat} {la : Option Nat} {L : List S5} {v : V} (h : StT H l la L v) : StH H l la L v := by
  obtain ⟨a, b, xs, rfl, h1, h2, h3⟩ := h
  exact ⟨a, b, xs, rfl, .inr h1, .inr h2, Paired.mapP h3 fun _ _ ⟨b, h1, h2⟩ => ⟨b, h1, .inr h2⟩⟩
theorem StH.ex {l : Nat} {la : Option Nat} {L : List S5} {v : V} (h : StH H l la L v) (e : Ex H H') : StH H' l la L v := by
  obtain ⟨a, b, xs, rfl, h1, h2, h3⟩ := h
  exact ⟨a, b, xs, rfl, h1.ex e, h2.ex e, Paired.mapP h3 fun _ _ h => h.ex e⟩
def rTupO (K : PySem.W.Frag) (xs : List V) (H : Hp) (Q : VK) : Prop := ∃ p ys, xs = [.ref p] ∧ ((SqL K H p ys ∧ ∀ l, H l = none → Q (.ref l) (upd H l (.tup ys))) ∨ (SqT K H p ys ∧ Q (.ref p) H))
theorem tup_of {q : Addr} {ys : List V} {Q : VK} (h : LT H q ys) (k : ∀ r H', Ex H H' → H' r = some (.tup ys) → Q (.ref r) H') : rTupO K [.ref q] H Q := by
  rcases h with h | h
  · exact ⟨q, ys, rfl, .inl ⟨SqL.of h, fun r hr => k r _ (Ex.new hr) upd_same⟩⟩
  · exact ⟨q, ys, rfl, .inr ⟨SqT.of h, k q H (Ex.refl H) h⟩⟩
def spLetGo : Sp := fun vs H Q _ => ∃ (l : Nat) (la : Option Nat) (L : List S5) (v : V) (b : Nat), vs = [v, .int (b : Int)] ∧ StH H l la L v ∧ L.length ≤ 2000 ∧ ∀ u H', Ex H H' → StT H' l la (stay L b) u → Q u H'
theorem ok_let_go {f : Addr} {fd : FuncData} (G : Mg mg) (F : Fun K "let_go" "let_go" sLetGo f fd) (F1 : Fns K mg "need_number" ["value"] sNeedNumber fNN dNN) (G1 : FnOk P w K mg base CX0 3 fNN dNN ["value"] (spV pNat)) (F2 : Fns K mg "behind" ["span"] sBehind fBe dBe) : FnOk P w K mg base CX0 4 f fd ["store", "below"] spLetGo := by
  have G2 : FnOk P w K mg base CX0 1 fBe dBe ["span"] (spBehind K) := ok_behind F2.fn
  refine F.ok scLetGo (fun vs H Q E h => ?_) (fun cdv A outer s H vs Q E hr h => ?_)
  · obtain ⟨l, la, L, v, b, rfl, _⟩ := h
    rfl
  · obtain ⟨l, la, L, v, b, rfl, hs, hl, kk⟩ := h
    refine ⟨_, pss_cons (ps_expr (pe_call G1 hr (by rfl) F1.mg F1.fn.kp F1.bd .nil pass0 (pa_cons (pv 1) pa_nil)))
      (pss_cons (ps_asg (pv 0) (pg_seq rfl (pgs_cons (pg_name (i := 2) scLetGo.nd rfl (.inl rfl)) (pgs_cons (pg_name (i := 3) scLetGo.nd rfl (.inl rfl)) (pgs_cons (pg_name (i := 4) scLetGo.nd rfl (.inl rfl)) pgs_nil)))))
      (pss_one (ps_ret (pe_tup (pa_cons (pv 2) (pa_cons (pv 3) (pa_cons (pe_callTy (T := "tuple") call_tuple_of (by rfl) G.tuple (by decide +kernel) (pa_cons
        (pe_lc (own := [("span", 5)]) (te := tCB (rTupO K) (tCons (tVar 5) tNil)) (tt := tTest (tOp (rI0 fun i j => .bl (decide (j < i))) (tCall (spBehind K) [] E0 (tCons (tVar 5) tNil)) (tVar 1))) (by rfl) scLetGo.nd (pi_seq (pv 4))
          (blkOk_by (own := [("span", 5)]) (N := ["store", "below", "laid", "last", "spans", "span"]) (sc := defScope sLetGo) (by decide +kernel)) (fun _ _ _ _ _ => pg_name (i := 5) scLetGo.nd rfl (.inl rfl))
          (fun _ _ _ _ _ => pts_one (pt_cmpR op_gt (pe_call G2 (hr.mono (by decide)) (by rfl) F2.mg F2.fn.kp F2.bd .nil pass0 (pa_cons (pv 5) pa_nil)) (pv 1) (nomark _)))
          (fun _ _ _ _ _ => pe_callTy (T := "tuple") call_tuple_of (by rfl) G.tuple (by decide +kernel) (pa_cons (pv 5) pa_nil))) pa_nil)) pa_nil))))))), ?_⟩
    obtain ⟨a, e, xs, rfl, ha, he, hw⟩ := hs
    refine ⟨_, rfl, .non, ⟨(b : Int), rfl, by omega, rfl⟩, fun H1 e1 => ?_⟩
    have hw1 := Paired.mapP hw fun _ _ h => h.ex e1
    have hxl : L.length = xs.length := Paired.length hw
    refine ⟨_, rfl, a, _, rfl, (ha.ex e1).e, rfl, _, _, rfl, _, _, rfl, _, _, rfl, rfl, ?_⟩
    refine ⟨_, rfl, _, rfl, .ref e, rfl, e, xs, rfl, (he.ex e1).e, fun J Gd wk hG D hD => ?_⟩
    refine lc_gen wk (fun m H' acc => (∃ z, H' D = some (.lst z)) ∧ Paired (SpT H') (stay (L.take m) b) acc) (by omega) hD (fun m H' xs ys acc h r => ?_) ⟨⟨[], upd_same⟩, .nil⟩ hG ?_ ?_
    · refine ⟨⟨ys, upd_same⟩, Paired.mapP r.2 fun p v ⟨b, h1, h2⟩ => ⟨b, h1, ?_⟩⟩
      rw [upd_ne (fun z => by rw [z, h] at h2; cases h2)]
      exact h2
    · intro m y Ha Hb acc hi ex yy hR Qy Qn hy hn
      obtain ⟨rfl, hx⟩ := yy
      obtain ⟨⟨z, hz⟩, hR⟩ := hR
      obtain ⟨s, hs, hp⟩ := Paired.atR hw1 hx
      have tk : stay (L.take (m + 1)) b = stay (L.take m) b ++ (if (s.f : Int) + s.n > (b : Int) then [s] else []) := by
        unfold stay
        rw [List.take_add_one, hs, List.filter_append]
        congr 1
        show List.filter _ [s] = _
        rw [List.filter_cons]
        by_cases c : (s.f : Int) + s.n > (b : Int)
        · rw [if_pos (decide_eq_true c), if_pos c]; rfl
        · rw [if_neg (by rw [decide_eq_true_eq]; exact c), if_neg c]; rfl
      have px := hp.ex ex
      obtain ⟨q, rfl, hq⟩ := px
      refine ⟨wipe1, _, wipe_at (by show 5 < 6; decide), s, .ref q, rfl, ⟨q, rfl, hq.e⟩, fun H3 e3 => ⟨_, rfl, _, _, rfl, rfl, _, rfl, ite2 (fun c => ?_) fun c => ?_⟩⟩
      · have c' := of_decide_eq_true c
        refine ⟨.ref q, wipe_at (by show 5 < 6; decide), tup_of (hq.ex e3) fun r H4 e4 h4 => hy _ _ (e3.trans e4) ?_⟩
        rw [tk, if_pos c']
        exact ⟨⟨z, (e3.trans e4) _ _ hz⟩, Paired.app (Paired.mapP hR fun _ _ h => h.ex (e3.trans e4)) (.cons ⟨r, rfl, h4⟩ .nil)⟩
      · have c' : ¬ (s.f : Int) + s.n > (b : Int) := fun y => c (decide_eq_true y)
        refine hn H3 e3 ?_
        rw [tk, if_neg c', List.append_nil]
        exact ⟨⟨z, e3 _ _ hz⟩, Paired.mapP hR fun _ _ h => h.ex e3⟩
    · intro H4 acc e4 hD4 hR
      rw [← hxl, List.take_length] at hR
      refine ⟨D, acc, rfl, .inl ⟨SqL.of hD4, fun q hq => ?_⟩⟩
      have e5 := Ex.new hq (o := .tup acc)
      refine ⟨by show 3 ≤ sizeLine; decide, fun r hr => ?_⟩
      have e6 := Ex.new hr (o := .tup [V.int (l : Int), nonV la, .ref q])
      exact kk _ _ (e1.trans (e4.trans (e5.trans e6))) ⟨r, q, acc, rfl, upd_same, e6 _ _ upd_same, Paired.mapP hR.2 fun _ _ h => h.ex (e5.trans e6)⟩
end
end K09
set_option Elab.async false
set_option linter.all false
set_option maxRecDepth 100000
set_option maxHeartbeats 4000000
namespace K09
open PySem PySem.Spec PyProof.Rows L2 GxR Pu Evl
theorem scSpanWith : FnScope ["store", "row", "laid", "_", "spans", "span"] ["store", "row"] (defScope sSpanWith) := ⟨rfl, rfl, rfl, by decide +kernel, rfl, by decide +kernel, by decide +kernel⟩
def hasR (r : Nat) (s : S5) : Bool := decide ((s.f : Int) ≤ (r : Int)) && decide ((r : Int) < (s.f : Int) + s.n)
section
variable {P : Program} {w : World} {K : PySem.W.Frag} {mg : Str → Option Value} {base : Heap} {σ : L2.St} {H H' : Hp}
variable {fBe fNum fInt : Addr} {dBe dNum dInt : FuncData}
def ResO (H : Hp) (o : Option S5) (v : V) : Prop := match o with
  | none => v = .non
  | some s => SpT H s v
def spSpanWith : Sp := fun vs H Q _ => ∃ (l : Nat) (la : Option Nat) (L : List S5) (v : V) (r : Nat), vs = [v, .int (r : Int)] ∧ StH H l la L v ∧ L.length ≤ 2000 ∧ r < l ∧ ∀ u H', Ex H H' → ResO H' (L.find? (hasR r)) u → Q u H'
theorem ok_span_with {f : Addr} {fd : FuncData} (M : L2.Mod K mg base) (G : Mg mg) (F : Fun K "span_with" "span_with" sSpanWith f fd) (F1 : Fns K mg "is_number" ["value"] sIsNumber fNum dNum) (F3 : Fns K mg "is_integer" ["value"] sIsInteger fInt dInt) (F2 : Fns K mg "behind" ["span"] sBehind fBe dBe) : FnOk P w K mg base CX0 3 f fd ["store", "row"] spSpanWith := by
  have G1 : FnOk P w K mg base CX0 2 fNum dNum ["value"] (spPure P w base ["value"] pNumber) := (pf_is_number M G F1.fn F3.fn F3.bd F3.mg).ok
  have G2 : FnOk P w K mg base CX0 1 fBe dBe ["span"] (spBehind K) := ok_behind F2.fn
  refine F.ok scSpanWith (fun vs H Q E h => ?_) (fun cdv A outer s H vs Q E hr h => ?_)
  · obtain ⟨l, la, L, v, r, rfl, _⟩ := h
    rfl
  · obtain ⟨l, la, L, v, r, rfl, hs, hl, hrl, kk⟩ := h
    refine ⟨_, pss_cons (ps_asg (pv 0) (pg_seq rfl (pgs_cons (pg_name (i := 2) scSpanWith.nd rfl (.inl rfl)) (pgs_cons (pg_name (i := 3) scSpanWith.nd rfl (.inl rfl)) (pgs_cons (pg_name (i := 4) scSpanWith.nd rfl (.inl rfl)) pgs_nil)))))
      (pss_cons (ps_if (PW.pt (pw_or (pt_not (pt_val (pe_call G1 hr (by rfl) F1.mg F1.fn.kp F1.bd .nil pass0 (pa_cons (pv 1) pa_nil)))) (pw_or1 (pt_cmpR op_ge (pv 1) (pv 2) (nomark _))))) pss_never pss_nil)
      (pss_cons (ps_for PassesOwn.never rfl (pi_seq (pv 4)) (pg_name (i := 5) scSpanWith.nd rfl (.inl rfl)) (pss_one (ps_if (pt_chain op_le op_lt (pe_ix ix_seq (pv 5) pe_int (fun _ _ => rfl)) (pv 1) (pe_call G2 (hr.mono (by decide)) (by rfl) F2.mg F2.fn.kp F2.bd .nil pass0 (pa_cons (pv 5) pa_nil)))
          (pss_one (ps_ret (pe_callTy (T := "tuple") call_tuple_of (by rfl) G.tuple (by decide +kernel) (pa_cons (pv 5) pa_nil)))) pss_nil)))
      (pss_one (ps_ret pe_non)))), ?_⟩
    obtain ⟨a, e, xs, rfl, ha, he, hw⟩ := hs
    have hxl : L.length = xs.length := Paired.length hw
    refine ⟨_, rfl, a, _, rfl, ha.e, rfl, _, _, rfl, _, _, rfl, _, _, rfl, rfl, ?_⟩
    have e0 : Ev (tCall (spPure P w base ["value"] pNumber) [] E0 (tCons (tVar 1) tNil)) ([some (.ref a), some (.int (r : Int)), some (.int (l : Int)), some (nonV la), some (.ref e), none] : L2.St) H (.bl true) := ev_call (ea_cons (ev_var rfl) ea_nil) (spPure.use rfl fun H1 _ h _ _ => ⟨_, _, rfl, .int _, by rw [show isNum (.int (r : Int)) = true from decide_eq_true (show (r : Int) ≥ 0 by omega)]⟩)
    refine e0 H (Ex.refl H) _ fun H1 e1 => ⟨true, rfl, ite2 (fun z => nomatch z) fun _ => ?_⟩
    refine ⟨_, rfl, _, rfl, _, _, rfl, rfl, _, rfl, ite2 (fun z => absurd (of_decide_eq_true z) (by omega)) fun _ => ?_⟩
    have hw1 := Paired.mapP hw fun _ _ h => h.ex e1
    refine ⟨.ref e, rfl, e, xs, rfl, (he.ex e1).e, fun J Gd wk hG => for_it wk (fun i σ' H' => ∃ y5, σ' = [some (.ref a), some (.int (r : Int)), some (.int (l : Int)), some (nonV la), some (.ref e), y5] ∧ Ex H1 H' ∧ (L.take i).find? (hasR r) = none) ⟨none, rfl, Ex.refl H1, rfl⟩ (fun i σ' H' _ p => ?_) ?_ ?_⟩
    · obtain ⟨_, _, ex, _⟩ := p
      exact hG H' ex
    · intro i x σ' Ha Hb hi hPv hy
      obtain ⟨y5, rfl, ex, hf⟩ := hPv
      obtain ⟨rfl, hx⟩ := hy
      obtain ⟨s, hs, hp⟩ := Paired.atR hw1 hx
      obtain ⟨q, rfl, hq⟩ := hp.ex ex
      have tk : L.take (i + 1) = L.take i ++ [s] := by rw [List.take_add_one, hs]; rfl
      have miss : hasR r s = false → (L.take (i + 1)).find? (hasR r) = none := fun z => by
        rw [tk, List.find?_append, hf]
        show [s].find? (hasR r) = none
        rw [List.find?_cons, z]
        rfl
      have hit : hasR r s = true → L.find? (hasR r) = some s := fun z => by
        have il := (List.getElem?_eq_some_iff.mp hs).1
        have eL : L = L.take i ++ s :: L.drop (i + 1) := by
          have h9 := List.drop_eq_getElem_cons il
          rw [(List.getElem?_eq_some_iff.mp hs).2] at h9
          rw [← h9, List.take_append_drop]
        rw [eL, List.find?_append]
        have h8 : (L.take i).find? (hasR r) = none := hf
        rw [h8]
        show (s :: L.drop (i + 1)).find? (hasR r) = some s
        rw [List.find?_cons, z]
      refine ⟨_, rfl, rd_ix (j := 0) ⟨q, rfl, hq.e⟩ rfl ⟨_, rfl, (s.f : Int), (r : Int), rfl, rfl, _, rfl, ite2 (fun c => ?_) fun c => ?_⟩⟩
      · refine ⟨_, rfl, s, .ref q, rfl, ⟨q, rfl, hq.e⟩, fun H4 e4 => ⟨(r : Int), (s.f : Int) + s.n, rfl, rfl, _, rfl, ite2 (fun c2 => ?_) fun c2 => ?_⟩⟩
        · have hh : hasR r s = true := by unfold hasR; rw [c, c2]; rfl
          exact ⟨.ref q, rfl, tup_of (hq.ex e4) fun r4 H5 e5 h5 => kk _ _ (e1.trans (ex.trans (e4.trans e5))) (by rw [hit hh]; exact ⟨r4, rfl, h5⟩)⟩
        · have hh : hasR r s = false := by unfold hasR; rw [Bool.not_eq_true] at c2; rw [c2, Bool.and_false]
          exact ⟨_, rfl, ex.trans e4, miss hh⟩
      · have hh : hasR r s = false := by unfold hasR; rw [Bool.not_eq_true] at c; rw [c, Bool.false_and]
        exact ⟨_, rfl, by first | exact ⟨_, rfl, ex, miss hh⟩ | exact ⟨ex, miss hh⟩⟩
    · intro σ' H' p1
      obtain ⟨y5, rfl, ex, hf⟩ := p1
      rw [← hxl, List.take_length] at hf
      exact kk _ _ (e1.trans ex) (by rw [hf]; rfl)
end
end K09
set_option Elab.async false
set_option linter.all false
set_option maxRecDepth 100000
set_option maxHeartbeats 4000000
namespace K09
open PySem PySem.Spec PyProof.Rows L2 GxR Pu Evl
theorem scLay : FnScope ["store", "keep", "stamp", "value", "laid", "last", "spans", "grown", "span"] ["store", "keep", "stamp", "value"] (defScope sLay) := ⟨rfl, rfl, rfl, by decide +kernel, rfl, by decide +kernel, by decide +kernel⟩
/-- what settled makes of spans: L' of L, told by Rl -/
def spSettled (Rl : Nat → List S5 → List S5 → Prop) : Sp := fun vs H Q _ => ∃ (k : Nat) (e : Addr) (L L' : List S5) (xs : List V), vs = [.ref e, .int (k : Int)] ∧ H e = some (.lst xs) ∧ Paired (SpT H) L xs ∧ Rl k L L' ∧
  ∀ q ys H', H q = none → Ex H H' → H' q = some (.tup ys) → Paired (SpT H') L' ys → Q (.ref q) H'
def rowS (l : Nat) (x : Int) : S5 := ⟨l, 1, x, x, x⟩
def spLay (Rl : Nat → List S5 → List S5 → Prop) : Sp := fun vs H Q _ => ∃ (l : Nat) (la : Option Nat) (L L' : List S5) (v : V) (k st : Nat) (x : Int), vs = [v, .int (k : Int), .int (st : Int), .int x] ∧ StH H l la L v ∧ L.length ≤ 2000 ∧ 2 ≤ k ∧ k ≤ 8 ∧ (∀ n, la = some n → n < st) ∧
  -1000000 ≤ x ∧ x ≤ 1000000 ∧ Rl k (L ++ [rowS l x]) L' ∧ ∀ u H', Ex H H' → StT H' (l + 1) (some st) L' u → Q u H'
section
variable {P : Program} {w : World} {K : PySem.W.Frag} {mg : Str → Option Value} {base : Heap} {σ : L2.St} {H H' : Hp} {Rl : Nat → List S5 → List S5 → Prop}
variable {fNK fNum fInt fRd fRS fSe : Addr} {dNK dNum dInt dRd dRS dSe : FuncData}
theorem ok_lay {f : Addr} {fd : FuncData} (M : L2.Mod K mg base) (G : Mg mg) (V' : Mv mg) (F : Fun K "lay" "lay" sLay f fd) (F1 : Fns K mg "need_keep" ["keep"] sNeedKeep fNK dNK) (G1 : FnOk P w K mg base CX0 3 fNK dNK ["keep"] (spV pKeep)) (F2 : Fns K mg "is_number" ["value"] sIsNumber fNum dNum) (F3 : Fns K mg "is_integer" ["value"] sIsInteger fInt dInt)
    (F4 : Fns K mg "is_reading" ["value"] sIsReading fRd dRd) (F5 : Fns K mg "row_span" ["row", "value"] sRowSpan fRS dRS) (F6 : Fns K mg "settled" ["spans", "keep"] sSettled fSe dSe) (G6 : FnOk P w K mg base CX0 6 fSe dSe ["spans", "keep"] (spSettled Rl)) : FnOk P w K mg base CX0 7 f fd ["store", "keep", "stamp", "value"] (spLay Rl) := by
  have G2 : FnOk P w K mg base CX0 2 fNum dNum ["value"] (spPure P w base ["value"] pNumber) := (pf_is_number M G F2.fn F3.fn F3.bd F3.mg).ok
  have G4 : FnOk P w K mg base CX0 2 fRd dRd ["value"] (spPure P w base ["value"] pReading) := (pf_is_reading M G V' F4.fn F3).ok
  have G5 : FnOk P w K mg base CX0 1 fRS dRS ["row", "value"] spRowSpan := ok_row_span F5.fn
  refine F.ok scLay (fun vs H Q E h => ?_) (fun cdv A outer s H vs Q E hr h => ?_)
  · obtain ⟨l, la, L, L', v, k, st, x, rfl, _⟩ := h
    rfl
  · obtain ⟨l, la, L, L', v, k, st, x, rfl, hs, hl, h2, h8, hla, x1, x2, pre, kk⟩ := h
    refine ⟨_, pss_cons (ps_expr (pe_call G1 (hr.mono (by decide)) (by rfl) F1.mg F1.fn.kp F1.bd .nil pass0 (pa_cons (pv 1) pa_nil)))
      (pss_cons (ps_asg (pv 0) (pg_seq rfl (pgs_cons (pg_name (i := 4) scLay.nd rfl (.inl rfl)) (pgs_cons (pg_name (i := 5) scLay.nd rfl (.inl rfl)) (pgs_cons (pg_name (i := 6) scLay.nd rfl (.inl rfl)) pgs_nil)))))
      (pss_cons (ps_if (PW.pt (pw_or (pt_not (pt_val (pe_call G2 (hr.mono (by decide)) (by rfl) F2.mg F2.fn.kp F2.bd .nil pass0 (pa_cons (pv 2) pa_nil)))) (pw_or1 (PW.pt (pw_and (pt_cmp (pc_notN (pv 5))) (pw_and1 (pt_cmpR op_le (pv 2) (pv 5) (nomark _)))))))) pss_never pss_nil)
      (pss_cons (ps_if (pt_not (pt_val (pe_call G4 (hr.mono (by decide)) (by rfl) F4.mg F4.fn.kp F4.bd .nil pass0 (pa_cons (pv 3) pa_nil)))) pss_never pss_nil)
      (pss_cons (ps_set (i := 7) scLay.nd rfl (.inl rfl) (pe_op op_cat (pe_lc (own := [("span", 8)]) (te := tCB (rTupO K) (tCons (tVar 8) tNil)) (by rfl) scLay.nd (pi_seq (pv 6))
          (blkOk_by (own := [("span", 8)]) (N := ["store", "keep", "stamp", "value", "laid", "last", "spans", "grown", "span"]) (sc := defScope sLay) (by decide +kernel)) (fun _ _ _ _ _ => pg_name (i := 8) scLay.nd rfl (.inl rfl)) (fun _ _ _ _ _ => pts_nil)
          (fun _ _ _ _ _ => pe_callTy (T := "tuple") call_tuple_of (by rfl) G.tuple (by decide +kernel) (pa_cons (pv 8) pa_nil)))
        (pe_lst (pa_cons (pe_call G5 (hr.mono (by decide)) (by rfl) F5.mg F5.fn.kp F5.bd .nil pass0 (pa_cons (pv 4) (pa_cons (pv 3) pa_nil))) pa_nil))))
      (pss_one (ps_ret (pe_tup (pa_cons (pe_op op_add (pv 4) pe_int) (pa_cons (pv 2) (pa_cons (pe_call G6 hr (by rfl) F6.mg F6.fn.kp F6.bd .nil pass0 (pa_cons (pv 7) (pa_cons (pv 1) pa_nil))) pa_nil)))))))))), ?_⟩
    obtain ⟨a, e, xs, rfl, ha, he, hw⟩ := hs
    have hxl : L.length = xs.length := Paired.length hw
    refine ⟨_, rfl, .non, ⟨(k : Int), rfl, by omega, by omega, rfl⟩, fun H1 e1 => ?_⟩
    refine ⟨_, rfl, a, _, rfl, (ha.ex e1).e, rfl, _, _, rfl, _, _, rfl, _, _, rfl, rfl, ?_⟩
    have e0 : ∀ H2, Ev (tCall (spPure P w base ["value"] pNumber) [] E0 (tCons (tVar 2) tNil)) ([some (.ref a), some (.int (k : Int)), some (.int (st : Int)), some (.int x), some (.int (l : Int)), some (nonV la), some (.ref e), none, none] : L2.St) H2 (.bl true) := fun H2 => ev_call (ea_cons (ev_var rfl) ea_nil) (spPure.use rfl fun H1 _ h _ _ => ⟨_, _, rfl, .int _, by rw [show isNum (.int (st : Int)) = true from decide_eq_true (show (st : Int) ≥ 0 by omega)]⟩)
    have e00 : ∀ H2, Ev (tCall (spPure P w base ["value"] pReading) [] E0 (tCons (tVar 3) tNil)) ([some (.ref a), some (.int (k : Int)), some (.int (st : Int)), some (.int x), some (.int (l : Int)), some (nonV la), some (.ref e), none, none] : L2.St) H2 (.bl true) := fun H2 => ev_call (ea_cons (ev_var rfl) ea_nil) (spPure.use rfl fun H1 _ h _ _ => ⟨x, rfl, by rw [decide_eq_true x1, decide_eq_true x2]; rfl⟩)
    dsimp only
    refine q_when (b := false) ?_ (fun z => nomatch z) fun _ H2 e2 => ?_
    · intro H3 e3 Q3 q3
      refine e0 H3 H3 (Ex.refl H3) _ fun H4 e4 => ⟨true, rfl, ite2 (fun z => nomatch z) fun _ => ?_⟩
      cases la with
      | none => exact ⟨_, rfl, _, rfl, ite2 (fun z => nomatch z) fun _ => q3 H4 e4⟩
      | some n =>
        refine ⟨_, rfl, _, rfl, ite2 (fun _ => ⟨_, rfl, _, rfl, _, _, rfl, rfl, _, rfl, ?_⟩) fun z => absurd rfl z⟩
        have := hla n rfl
        rw [decide_eq_false (by omega)]
        exact q3 H4 e4
    refine e00 H2 H2 (Ex.refl H2) _ fun H3 e3 => ⟨true, rfl, ite2 (fun z => nomatch z) fun _ => ?_⟩
    have e13 := e1.trans (e2.trans e3)
    have hw1 := Paired.mapP hw fun _ _ h => h.ex e13
    refine ⟨.ref e, rfl, e, xs, rfl, (he.ex e13).e, fun J Gd wk hG D hD => ?_⟩
    refine lc_gen wk (fun m H' acc => (∃ z, H' D = some (.lst z)) ∧ Paired (SpT H') (L.take m) acc) (by omega) hD (fun m H' xs ys acc h r => ?_) ⟨⟨[], upd_same⟩, .nil⟩ hG ?_ ?_
    · refine ⟨⟨ys, upd_same⟩, Paired.mapP r.2 fun p v ⟨b, h1, h2⟩ => ⟨b, h1, ?_⟩⟩
      rw [upd_ne (fun z => by rw [z, h] at h2; cases h2)]
      exact h2
    · intro m y Ha Hb acc hi ex yy hR Qy Qn hy hn
      obtain ⟨rfl, hx⟩ := yy
      obtain ⟨⟨z, hz⟩, hR⟩ := hR
      obtain ⟨s, hs, hp⟩ := Paired.atR hw1 hx
      have tk : L.take (m + 1) = L.take m ++ [s] := by rw [List.take_add_one, hs]; rfl
      obtain ⟨q, rfl, hq⟩ := hp.ex ex
      refine ⟨wipe1, yes_then ⟨.ref q, wipe_at (by show 8 < 9; decide), tup_of hq fun r H4 e4 h4 => hy _ _ e4 ?_⟩⟩
      rw [tk]
      exact ⟨⟨z, e4 _ _ hz⟩, Paired.app (Paired.mapP hR fun _ _ h => h.ex e4) (.cons ⟨r, rfl, h4⟩ .nil)⟩
    · intro H4 acc e4 hD4 hR
      rw [← hxl, List.take_length] at hR
      have al : L.length = acc.length := Paired.length hR.2
      refine ⟨_, rfl, _, rfl, l, x, rfl, fun q H5 hq e5 h5 => ⟨by show 1 ≤ sizeLine; decide, fun r hr => ?_⟩⟩
      have e6 := Ex.new hr (o := .lst [V.ref q])
      have e46 := e5.trans e6
      refine ⟨D, r, acc, [.ref q], rfl, rfl, e46 _ _ hD4, upd_same, ?_, fun g hg => ?_⟩
      · show acc.length + 1 ≤ sizeLine
        exact Nat.le_trans (show acc.length + 1 ≤ 2001 by omega) (by decide)
      have e7 := Ex.new hg (o := .lst (acc ++ [V.ref q]))
      have e47 := e46.trans e7
      refine ⟨_, rfl, _, _, rfl, rfl, _, rfl, _, rfl, _, rfl, k, g, L ++ [rowS l x], L', acc ++ [.ref q], rfl, upd_same, ?_, pre, fun q2 ys H8 hq2 e8 h8 p8 => ⟨by show 3 ≤ sizeLine; decide, fun r2 hr2 => ?_⟩⟩
      · exact Paired.app (Paired.mapP hR.2 fun _ _ h => h.ex e47) (.cons ⟨q, rfl, (e6.trans e7) _ _ h5⟩ .nil)
      · have e9 := Ex.new hr2 (o := .tup [V.int ((l : Int) + 1), .int (st : Int), .ref q2])
        exact kk _ _ (e13.trans (e4.trans (e47.trans (e8.trans e9)))) ⟨r2, q2, ys, rfl, upd_same, e9 _ _ h8, Paired.mapP p8 fun _ _ h => h.ex e9⟩
end
end K09
set_option Elab.async false
set_option linter.all false
set_option maxRecDepth 100000
set_option maxHeartbeats 4000000
/-! laying a row by joining the two eldest of a size: the shape's counts -/
namespace Sh
/-- one more of the least size -/
def bump : List Nat → List Nat
  | [] => [1]
  | c :: cs => (c + 1) :: cs
/-- counts when a row more was laid -/
def inc (k : Nat) : List Nat → List Nat
  | [] => [1]
  | c :: cs => if c < k then (c + 1) :: cs else (c - 1) :: inc k cs
theorem inc_tot {k : Nat} : ∀ (cs : List Nat) (s : Nat), (∀ c ∈ cs, 1 ≤ c) → tot (inc k cs) s = tot cs s + s
  | [], s, _ => by show 0 + s * 1 = 0 + s; omega
  | c :: cs, s, h => by
    have h1 := h c (List.mem_cons_self ..)
    unfold inc
    by_cases z : c < k
    · rw [if_pos z]
      show tot cs (2 * s) + s * (c + 1) = tot cs (2 * s) + s * c + s
      rw [Nat.mul_add, Nat.mul_one]
      omega
    · rw [if_neg z]
      show tot (inc k cs) (2 * s) + s * (c - 1) = tot cs (2 * s) + s * c + s
      rw [inc_tot cs (2 * s) fun x hx => h x (List.mem_cons_of_mem _ hx)]
      obtain ⟨d, rfl⟩ : ∃ d, c = d + 1 := ⟨c - 1, by omega⟩
      rw [Nat.add_sub_cancel, Nat.mul_add, Nat.mul_one]
      omega
theorem inc_cons (k : Nat) : ∀ cs : List Nat, ∃ d ds, inc k cs = d :: ds
  | [] => ⟨1, [], rfl⟩
  | c :: cs => by
    unfold inc
    by_cases z : c < k
    · exact ⟨_, _, if_pos z⟩
    · exact ⟨_, _, if_neg z⟩
theorem inc_val {k : Nat} (hk : 2 ≤ k) {cs : List Nat} (h : Val k cs) : Val k (inc k cs) := by
  induction h with
  | @one c h1 h2 =>
    unfold inc
    by_cases z : c < k
    · rw [if_pos z]
      exact .one (by omega) (by omega)
    · rw [if_neg z]
      exact .more (.inr (by omega)) (.one (by omega) (by omega))
  | @more c d cs h r ih =>
    unfold inc
    by_cases z : c < k
    · rw [if_pos z]
      exact .more (.inl (by omega)) r
    · rw [if_neg z]
      obtain ⟨d', ds', e⟩ := inc_cons k (d :: cs)
      rw [e] at ih ⊢
      exact .more (.inr (by omega)) ih
theorem val_all {k : Nat} (hk : 2 ≤ k) {cs : List Nat} (h : Val k cs) : ∀ c ∈ cs, 1 ≤ c ∧ c ≤ k := by
  induction h with
  | one h1 h2 =>
    intro c hc
    rw [List.mem_singleton.mp hc]
    exact ⟨h1, h2⟩
  | more h r ih =>
    intro c hc
    rcases List.mem_cons.mp hc with z | z
    · rw [z]
      omega
    · exact ih c z
/-- a row more: the counts of one row more -/
theorem inc_counts {k : Nat} (hk : 2 ≤ k) (m : Nat) : inc k (counts k m) = counts k (m + 1) := by
  by_cases h : 0 < m
  · have v := counts_val hk m h
    have t : tot (inc k (counts k m)) 1 = m + 1 := by
      rw [inc_tot _ 1 fun c hc => (val_all hk v c hc).1, counts_tot hk]
    rw [← t, uniq hk (inc_val hk v)]
  · have z : m = 0 := by omega
    subst z
    rw [counts_zero]
    have v : Val k [1] := .one (Nat.le_refl 1) (by omega)
    have u := uniq hk v
    have t : tot [1] 1 = 0 + 1 := rfl
    rw [t] at u
    exact u.symm
/-- the eldest two of a size, joined -/
def merge (i : Nat) (L : List (Nat × Nat)) : List (Nat × Nat) := match L.drop i with
  | a :: b :: r => L.take i ++ (a.1, a.2 + b.2) :: r
  | _ => L
theorem sh_bump : ∀ (cs : List Nat) (f s : Nat), sh f (bump cs) s = sh f cs s ++ [(f + tot cs s, s)]
  | [], f, s => by
    show [] ++ (List.range 1).map (fun j => (f + 0 + s * j, s)) = [] ++ [(f + 0, s)]
    rfl
  | c :: cs, f, s => by
    show sh f cs (2 * s) ++ (List.range (c + 1)).map _ = (sh f cs (2 * s) ++ (List.range c).map _) ++ [(f + (tot cs (2 * s) + s * c), s)]
    rw [List.range_succ, List.map_append, List.append_assoc]
    congr 2
    show [(f + tot cs (2 * s) + s * c, s)] = _
    rw [Nat.add_assoc]
theorem tot_bump : ∀ (cs : List Nat) (s : Nat), tot (bump cs) s = tot cs s + s
  | [], s => by show 0 + s * 1 = 0 + s; omega
  | c :: cs, s => by
    show tot cs (2 * s) + s * (c + 1) = tot cs (2 * s) + s * c + s
    rw [Nat.mul_add, Nat.mul_one]
    omega
theorem merge_at {A : List (Nat × Nat)} {a b : Nat × Nat} {r : List (Nat × Nat)} : merge A.length (A ++ a :: b :: r) = A ++ (a.1, a.2 + b.2) :: r := by
  unfold merge
  rw [List.drop_left, List.take_left]
theorem range2 {α : Type} (g : Nat → α) (c : Nat) : (List.range (c + 2)).map g = g 0 :: g 1 :: (List.range c).map fun j => g (j + 2) := by
  rw [List.range_succ_eq_map, List.map_cons, List.range_succ_eq_map, List.map_cons, List.map_cons, List.map_map, List.map_map]
  rfl
/-- joining the eldest two of the least size -/
theorem merge_sh (c : Nat) (cs : List Nat) (f s : Nat) : merge (sh f cs (2 * s)).length (sh f ((c + 2) :: cs) s) = sh f (c :: bump cs) s := by
  have e1 : sh f ((c + 2) :: cs) s = sh f cs (2 * s) ++ (f + tot cs (2 * s), s) :: (f + tot cs (2 * s) + s, s) :: (List.range c).map fun j => (f + tot cs (2 * s) + s * (j + 2), s) := by
    show sh f cs (2 * s) ++ (List.range (c + 2)).map _ = _
    rw [range2]
    show _ ++ (f + tot cs (2 * s) + s * 0, s) :: (f + tot cs (2 * s) + s * 1, s) :: _ = _
    rw [Nat.mul_zero, Nat.mul_one, Nat.add_zero]
  rw [e1, merge_at]
  show _ = sh f (bump cs) (2 * s) ++ (List.range c).map _
  rw [sh_bump, tot_bump, List.append_assoc]
  congr 1
  show (f + tot cs (2 * s), s + s) :: _ = (f + tot cs (2 * s), 2 * s) :: _
  rw [Nat.two_mul]
  congr 1
  refine List.map_congr_left fun j _ => ?_
  show (f + tot cs (s + s) + s * (j + 2), s) = (f + (tot cs (s + s) + (s + s)) + s * j, s)
  congr 1
  rw [Nat.mul_add]
  omega
end Sh
set_option Elab.async false
set_option linter.all false
set_option maxRecDepth 100000
set_option maxHeartbeats 4000000
/-! values of rows: sum, least, greatest of stretches -/
namespace Sv
open Sh
def lmin : List Int → Int
  | [] => 0
  | [x] => x
  | x :: y :: r => min x (lmin (y :: r))
def lmax : List Int → Int
  | [] => 0
  | [x] => x
  | x :: y :: r => max x (lmax (y :: r))
theorem lmin_spec : ∀ {xs : List Int}, xs ≠ [] → lmin xs ∈ xs ∧ ∀ y ∈ xs, lmin xs ≤ y
  | [], h => absurd rfl h
  | [x], _ => ⟨List.mem_singleton.mpr rfl, fun y hy => by rw [List.mem_singleton.mp hy]; exact Int.le_refl _⟩
  | x :: y :: r, _ => by
    have ih := lmin_spec (xs := y :: r) (List.cons_ne_nil _ _)
    have e : lmin (x :: y :: r) = min x (lmin (y :: r)) := rfl
    refine ⟨?_, fun z hz => ?_⟩
    · by_cases c : x ≤ lmin (y :: r)
      · rw [e, show min x (lmin (y :: r)) = x by omega]; exact List.mem_cons_self
      · rw [e, show min x (lmin (y :: r)) = lmin (y :: r) by omega]; exact List.mem_cons_of_mem _ ih.1
    · rcases List.mem_cons.mp hz with q | q
      · rw [e, q]; omega
      · have := ih.2 z q
        rw [e]; omega
theorem lmax_spec : ∀ {xs : List Int}, xs ≠ [] → lmax xs ∈ xs ∧ ∀ y ∈ xs, y ≤ lmax xs
  | [], h => absurd rfl h
  | [x], _ => ⟨List.mem_singleton.mpr rfl, fun y hy => by rw [List.mem_singleton.mp hy]; exact Int.le_refl _⟩
  | x :: y :: r, _ => by
    have ih := lmax_spec (xs := y :: r) (List.cons_ne_nil _ _)
    have e : lmax (x :: y :: r) = max x (lmax (y :: r)) := rfl
    refine ⟨?_, fun z hz => ?_⟩
    · by_cases c : lmax (y :: r) ≤ x
      · rw [e, show max x (lmax (y :: r)) = x by omega]; exact List.mem_cons_self
      · rw [e, show max x (lmax (y :: r)) = lmax (y :: r) by omega]; exact List.mem_cons_of_mem _ ih.1
    · rcases List.mem_cons.mp hz with q | q
      · rw [e, q]; omega
      · have := ih.2 z q
        rw [e]; omega
theorem lmin_uniq {xs : List Int} {m : Int} (h : m ∈ xs) (k : ∀ y ∈ xs, m ≤ y) : m = lmin xs := by
  have s := lmin_spec (xs := xs) (fun e => by rw [e] at h; cases h)
  have a := k _ s.1
  have b := s.2 _ h
  omega
theorem lmax_uniq {xs : List Int} {m : Int} (h : m ∈ xs) (k : ∀ y ∈ xs, y ≤ m) : m = lmax xs := by
  have s := lmax_spec (xs := xs) (fun e => by rw [e] at h; cases h)
  have a := k _ s.1
  have b := s.2 _ h
  omega
theorem lmin_app {a b : List Int} (ha : a ≠ []) (hb : b ≠ []) : lmin (a ++ b) = min (lmin a) (lmin b) := by
  have sa := lmin_spec ha
  have sb := lmin_spec hb
  refine (lmin_uniq ?_ fun y hy => ?_).symm
  · by_cases c : lmin a ≤ lmin b
    · rw [show min (lmin a) (lmin b) = lmin a by omega]; exact List.mem_append_left _ sa.1
    · rw [show min (lmin a) (lmin b) = lmin b by omega]; exact List.mem_append_right _ sb.1
  · rcases List.mem_append.mp hy with q | q
    · have := sa.2 y q; omega
    · have := sb.2 y q; omega
theorem lmax_app {a b : List Int} (ha : a ≠ []) (hb : b ≠ []) : lmax (a ++ b) = max (lmax a) (lmax b) := by
  have sa := lmax_spec ha
  have sb := lmax_spec hb
  refine (lmax_uniq ?_ fun y hy => ?_).symm
  · by_cases c : lmax b ≤ lmax a
    · rw [show max (lmax a) (lmax b) = lmax a by omega]; exact List.mem_append_left _ sa.1
    · rw [show max (lmax a) (lmax b) = lmax b by omega]; exact List.mem_append_right _ sb.1
  · rcases List.mem_append.mp hy with q | q
    · have := sa.2 y q; omega
    · have := sb.2 y q; omega
theorem sum_ge {lo : Int} : ∀ {xs : List Int}, (∀ y ∈ xs, lo ≤ y) → (xs.length : Int) * lo ≤ xs.sum
  | [], _ => by simp
  | x :: xs, h => by
    have ih := sum_ge (xs := xs) fun y hy => h y (List.mem_cons_of_mem _ hy)
    have h0 := h x List.mem_cons_self
    rw [List.sum_cons, List.length_cons]
    have e : ((xs.length + 1 : Nat) : Int) * lo = (xs.length : Int) * lo + lo := by rw [show ((xs.length + 1 : Nat) : Int) = (xs.length : Int) + 1 by omega, Int.add_mul, Int.one_mul]
    omega
theorem sum_le {hi : Int} : ∀ {xs : List Int}, (∀ y ∈ xs, y ≤ hi) → xs.sum ≤ (xs.length : Int) * hi
  | [], _ => by simp
  | x :: xs, h => by
    have ih := sum_le (xs := xs) fun y hy => h y (List.mem_cons_of_mem _ hy)
    have h0 := h x List.mem_cons_self
    rw [List.sum_cons, List.length_cons]
    have e : ((xs.length + 1 : Nat) : Int) * hi = (xs.length : Int) * hi + hi := by rw [show ((xs.length + 1 : Nat) : Int) = (xs.length : Int) + 1 by omega, Int.add_mul, Int.one_mul]
    omega
theorem sum_ge1 {lo z : Int} : ∀ {xs : List Int}, (∀ y ∈ xs, lo ≤ y) → z ∈ xs → (xs.length : Int) * lo + (z - lo) ≤ xs.sum
  | [], _, h => nomatch h
  | x :: xs, h, hz => by
    have h0 := h x List.mem_cons_self
    rw [List.sum_cons, List.length_cons]
    have e : ((xs.length + 1 : Nat) : Int) * lo = (xs.length : Int) * lo + lo := by rw [show ((xs.length + 1 : Nat) : Int) = (xs.length : Int) + 1 by omega, Int.add_mul, Int.one_mul]
    rcases List.mem_cons.mp hz with q | q
    · have ih := sum_ge (xs := xs) fun y hy => h y (List.mem_cons_of_mem _ hy)
      omega
    · have ih := sum_ge1 (xs := xs) (fun y hy => h y (List.mem_cons_of_mem _ hy)) q
      omega
theorem sum_le1 {hi z : Int} : ∀ {xs : List Int}, (∀ y ∈ xs, y ≤ hi) → z ∈ xs → xs.sum ≤ (xs.length : Int) * hi - (hi - z)
  | [], _, h => nomatch h
  | x :: xs, h, hz => by
    have h0 := h x List.mem_cons_self
    rw [List.sum_cons, List.length_cons]
    have e : ((xs.length + 1 : Nat) : Int) * hi = (xs.length : Int) * hi + hi := by rw [show ((xs.length + 1 : Nat) : Int) = (xs.length : Int) + 1 by omega, Int.add_mul, Int.one_mul]
    rcases List.mem_cons.mp hz with q | q
    · have ih := sum_le (xs := xs) fun y hy => h y (List.mem_cons_of_mem _ hy)
      omega
    · have ih := sum_le1 (xs := xs) (fun y hy => h y (List.mem_cons_of_mem _ hy)) q
      omega
/-- the values of a stretch -/
def sl (v : List Int) (p : Nat × Nat) : List Int := (v.drop p.1).take p.2
theorem sl_len {v : List Int} {p : Nat × Nat} (h : p.1 + p.2 ≤ v.length) : (sl v p).length = p.2 := by
  unfold sl
  rw [List.length_take, List.length_drop]
  omega
theorem sl_ne {v : List Int} {p : Nat × Nat} (h : p.1 + p.2 ≤ v.length) (h1 : 1 ≤ p.2) : sl v p ≠ [] := fun e => by
  have := sl_len h
  rw [e] at this
  simp at this
  omega
theorem sl_snoc {v : List Int} {p : Nat × Nat} {x : Int} (h : p.1 + p.2 ≤ v.length) : sl (v ++ [x]) p = sl v p := by
  unfold sl
  rw [List.drop_append_of_le_length (by omega), List.take_append_of_le_length (by rw [List.length_drop]; omega)]
theorem sl_last {v : List Int} {x : Int} : sl (v ++ [x]) (v.length, 1) = [x] := by
  unfold sl
  show (List.drop v.length (v ++ [x])).take 1 = [x]
  rw [List.drop_left]
  rfl
theorem sl_two {v : List Int} {a n m : Nat} : sl v (a, n) ++ sl v (a + n, m) = sl v (a, n + m) := by
  unfold sl
  show (v.drop a).take n ++ (v.drop (a + n)).take m = (v.drop a).take (n + m)
  rw [← List.drop_drop, List.take_add]
theorem sl_mem {v : List Int} {p : Nat × Nat} {y : Int} (h : y ∈ sl v p) : y ∈ v := List.mem_of_mem_drop (List.mem_of_mem_take h)
/-- the sizes of shapes are powers of two -/
theorem sh_pow : ∀ (cs : List Nat) (i f : Nat) (p : Nat × Nat), p ∈ sh f cs (2 ^ i) → ∃ j, p.2 = 2 ^ j := by
  intro cs i f p h
  obtain ⟨j, _, e⟩ := size_in cs (2 ^ i) f p h
  exact ⟨i + j, by rw [e, ← Nat.pow_add]⟩
/-- what settling goes through: the level's counts with one more, and what lies behind -/
def lvl (f : Nat) (ds : List Nat) (s : Nat) (low : List (Nat × Nat)) : List (Nat × Nat) := sh f (bump ds) s ++ low
theorem lvl_end {k f s c : Nat} {ds : List Nat} {low : List (Nat × Nat)} (h : c < k) : lvl f (c :: ds) s low = sh f (inc k (c :: ds)) s ++ low := by
  unfold lvl inc
  rw [if_pos h]
  rfl
theorem lvl_end0 {k f s : Nat} {low : List (Nat × Nat)} : lvl f [] s low = sh f (inc k []) s ++ low := rfl
theorem inc_over {k c : Nat} {ds : List Nat} (h : ¬ c < k) : inc k (c :: ds) = (c - 1) :: inc k ds := if_neg h
/-- what a level leaves behind -/
def lows (f c s t : Nat) (low : List (Nat × Nat)) : List (Nat × Nat) := (List.range c).map (fun j => (f + t + s * j, s)) ++ low
theorem lvl_fin {k f s c : Nat} {ds : List Nat} {low : List (Nat × Nat)} (h : ¬ c < k) (h1 : ∀ d ∈ ds, 1 ≤ d) : sh f (inc k (c :: ds)) s ++ low = sh f (inc k ds) (2 * s) ++ lows f (c - 1) s (tot ds (2 * s) + 2 * s) low := by
  unfold lows
  rw [← List.append_assoc]
  congr 1
  rw [inc_over h]
  show sh f (inc k ds) (2 * s) ++ (List.range (c - 1)).map _ = _
  rw [inc_tot ds (2 * s) h1]
theorem lvl_step {f s c : Nat} {ds : List Nat} {low : List (Nat × Nat)} (h : 1 ≤ c) :
    ∃ r, lvl f (c :: ds) s low = sh f ds (2 * s) ++ (f + tot ds (2 * s), s) :: (f + tot ds (2 * s) + s, s) :: r ∧ lvl f ds (2 * s) (lows f (c - 1) s (tot ds (2 * s) + 2 * s) low) = sh f ds (2 * s) ++ (f + tot ds (2 * s), 2 * s) :: r := by
  obtain ⟨d, rfl⟩ : ∃ d, c = d + 1 := ⟨c - 1, by omega⟩
  refine ⟨(List.range d).map (fun j => (f + tot ds (2 * s) + s * (j + 2), s)) ++ low, ?_, ?_⟩
  · unfold lvl
    show (sh f ds (2 * s) ++ (List.range (d + 2)).map (fun j => (f + tot ds (2 * s) + s * j, s))) ++ low = _
    rw [range2, List.append_assoc]
    show sh f ds (2 * s) ++ ((f + tot ds (2 * s) + s * 0, s) :: (f + tot ds (2 * s) + s * 1, s) :: (List.range d).map (fun j => (f + tot ds (2 * s) + s * (j + 2), s)) ++ low) = _
    rw [Nat.mul_zero, Nat.mul_one, Nat.add_zero]
    rfl
  · unfold lvl lows
    rw [sh_bump, Nat.add_sub_cancel, List.append_assoc]
    congr 1
    show (f + tot ds (2 * s), 2 * s) :: ((List.range d).map _ ++ low) = _
    congr 2
    refine List.map_congr_left fun j _ => ?_
    show (f + (tot ds (2 * s) + 2 * s) + s * j, s) = (f + tot ds (2 * s) + s * (j + 2), s)
    congr 1
    rw [Nat.mul_add]
    omega
/-- places of the spans of a size -/
def idx (s : Nat) : Nat → List (Nat × Nat) → List Nat
  | _, [] => []
  | o, p :: r => if p.2 = s then o :: idx s (o + 1) r else idx s (o + 1) r
theorem idx_app (s : Nat) : ∀ (x y : List (Nat × Nat)) (o : Nat), idx s o (x ++ y) = idx s o x ++ idx s (o + x.length) y
  | [], y, o => rfl
  | p :: x, y, o => by
    have ih := idx_app s x y (o + 1)
    have e : o + 1 + x.length = o + (p :: x).length := by rw [List.length_cons]; omega
    rw [e] at ih
    show (if p.2 = s then o :: idx s (o + 1) (x ++ y) else idx s (o + 1) (x ++ y)) = (if p.2 = s then o :: idx s (o + 1) x else idx s (o + 1) x) ++ _
    by_cases z : p.2 = s
    · rw [if_pos z, if_pos z, ih]; rfl
    · rw [if_neg z, if_neg z, ih]
theorem idx_none (s : Nat) : ∀ (x : List (Nat × Nat)) (o : Nat), (∀ p ∈ x, p.2 ≠ s) → idx s o x = []
  | [], _, _ => rfl
  | p :: x, o, h => by
    show (if p.2 = s then o :: idx s (o + 1) x else idx s (o + 1) x) = []
    rw [if_neg (h p List.mem_cons_self)]
    exact idx_none s x (o + 1) fun q hq => h q (List.mem_cons_of_mem _ hq)
theorem idx_same (s t : Nat) : ∀ (c o : Nat) (g : Nat → Nat), (idx s o ((List.range c).map fun j => (g j, s))).length = c
  | 0, _, _ => rfl
  | c + 1, o, g => by
    rw [List.range_succ, List.map_append, idx_app, List.length_append, idx_same s t c o g]
    show c + (if s = s then [o + _] else []).length = c + 1
    rw [if_pos rfl]
    rfl
theorem idx_len (s : Nat) : ∀ (x : List (Nat × Nat)) (o : Nat), (idx s o x).length ≤ x.length
  | [], _ => Nat.le_refl _
  | p :: x, o => by
    have ih := idx_len s x (o + 1)
    show (if p.2 = s then o :: idx s (o + 1) x else idx s (o + 1) x).length ≤ x.length + 1
    by_cases z : p.2 = s
    · rw [if_pos z, List.length_cons]; omega
    · rw [if_neg z]; omega
/-- of a level: so many of its size, the first one behind the greater ones -/
theorem idx_lvl {f s c : Nat} {ds : List Nat} {low : List (Nat × Nat)} (hs : 0 < s) (hl : ∀ p ∈ low, p.2 < s) : ∃ r, idx s 0 (lvl f (c :: ds) s low) = (sh f ds (2 * s)).length :: r ∧ r.length = c := by
  have e : lvl f (c :: ds) s low = sh f ds (2 * s) ++ ((List.range (c + 1)).map (fun j => (f + tot ds (2 * s) + s * j, s)) ++ low) := by
    unfold lvl
    show (sh f ds (2 * s) ++ (List.range (c + 1)).map _) ++ low = _
    rw [List.append_assoc]
  rw [e, idx_app, idx_app, idx_none s (sh f ds (2 * s)) 0 fun p hp => ?_, idx_none s low _ fun p hp => ?_, List.append_nil, List.nil_append]
  · have l := idx_same s s (c + 1) (0 + (sh f ds (2 * s)).length) fun j => f + tot ds (2 * s) + s * j
    have e2 : (List.range (c + 1)).map (fun j => (f + tot ds (2 * s) + s * j, s)) = (f + tot ds (2 * s) + s * 0, s) :: (List.range c).map (fun j => (f + tot ds (2 * s) + s * (j + 1), s)) := by
      rw [List.range_succ_eq_map, List.map_cons, List.map_map]
      rfl
    rw [e2] at l ⊢
    have e3 : ∀ (o : Nat) (r : List (Nat × Nat)) (a : Nat), idx s o ((a, s) :: r) = o :: idx s (o + 1) r := fun o r a => if_pos rfl
    rw [e3] at l ⊢
    refine ⟨_, by rw [Nat.zero_add], ?_⟩
    rw [List.length_cons] at l
    rw [Nat.zero_add] at l
    omega
  · have := hl p hp
    omega
  · have := (sh_mem ds (2 * s) f p hp).2.2
    omega
theorem idx_lvl0 {f s : Nat} {low : List (Nat × Nat)} (hl : ∀ p ∈ low, p.2 < s) : (idx s 0 (lvl f [] s low)).length = 1 := by
  unfold lvl
  rw [idx_app, idx_none s low _ fun p hp => ?_, List.append_nil]
  · show (idx s 0 ([] ++ (List.range 1).map fun j => (f + 0 + s * j, s))).length = 1
    rw [List.nil_append]
    exact idx_same s s 1 0 fun j => f + 0 + s * j
  · have := hl p hp
    omega
theorem lows_lt {f c s t : Nat} {low : List (Nat × Nat)} (hs : 0 < s) (hl : ∀ p ∈ low, p.2 < s) : ∀ p ∈ lows f c s t low, p.2 < 2 * s := fun p hp => by
  rcases List.mem_append.mp hp with q | q
  · obtain ⟨j, _, rfl⟩ := List.mem_map.mp q
    show s < 2 * s
    omega
  · have := hl p q
    omega
end Sv
set_option Elab.async false
set_option linter.all false
set_option maxRecDepth 100000
set_option maxHeartbeats 4000000
namespace Pu
open PySem PySem.Spec PyProof.Rows L2 GxR
/-- o[lo:hi] = a list -/
def gSubSl (to : TE) (tl th : TO) : TG := fun v σ H Q => to σ H fun x H1 => tl σ H1 fun l H2 => th σ H2 fun u H3 => ∃ (p b : Addr) (xs ys : List V) (a c : Nat), x = .ref p ∧ v = .ref b ∧ l = some (a : Int) ∧ u = some (c : Int) ∧
  H3 p = some (.lst xs) ∧ H3 b = some (.lst ys) ∧ p ≠ b ∧ a ≤ c ∧ c ≤ xs.length ∧ xs.length + ys.length ≤ sizeLine ∧ Q σ (upd H3 p (.lst (xs.take a ++ ys ++ xs.drop c)))
section
variable {X : Cx} {pos p2 : Pos}
theorem pg_subSl {o : Expr} {lo hi : Option Expr} {to : TE} {tl th : TO} (ho : PE X o to) (hl : PO X lo tl) (hu : PO X hi th)
    (ha : ∀ v, assign (.Subscript o (.Slice lo hi none p2) pos) X.env v = (do
      let ov ← holding [v] (eval o X.env)
      let iv ← holding [v, ov] (eval (.Slice lo hi none p2) X.env)
      standAt pos
      holding [v, ov, iv] (setItem ov iv v)
      release [iv, v, ov] []) := by intro _; rfl) : PG X (.Subscript o (.Slice lo hi none p2) pos) (gSubSl to tl th) := by
  refine ⟨fun pins s σ H v u Q I r h => ?_⟩
  rw [ha]
  refine wpAny_bind (wpAny_holding (thn (ho.run pins s σ H _ I h) fun ov s1 ⟨x, H1, I1, r1, q1⟩ => ?_))
  refine wpAny_bind (wpAny_holding ?_)
  refine wpAny_Slice (thn (hl.run pins s1 σ H1 _ I1 q1) fun vl s2 ⟨l, H2, I2, pl, q2⟩ => thn (hu.run pins s2 σ H2 _ I2 q2) fun vu s3 ⟨uu, H3, I3, pu, q3⟩ => ?_)
  rw [evalPart_none]
  refine wpAny_pure ?_
  have I4 : Inv X pins σ H3 { s3 with heap := s3.heap.push { cls := .type "slice", data := .fields #[vl, vu, .none] } } := I3.kept (t' := s3.toks) fun b ob q => Heap.get?_push_of_some _ q
  obtain ⟨p, b, xs, ys, a, c, rfl, rfl, rfl, rfl, hp, hb, ne, hac, hc, hz, q⟩ := q3
  cases r1
  cases r
  refine wpAny_bind (wpAny_standAt (wpAny_bind (wpAny_holding ?_)))
  have ra : RelV (.int (a : Int)) vl := by cases pl with | int i t => exact ⟨t, rfl⟩
  have rc : RelV (.int (c : Int)) vu := by cases pu with | int i t => exact ⟨t, rfl⟩
  refine set_slice I4 hp hb ne (Heap.IsSliceOf.new _ vl vu .none) ra rc (by omega) (by omega) (by omega) hz fun s' I5 => ?_
  rw [Int.toNat_natCast, Int.toNat_natCast] at I5
  exact wpAny_release ⟨σ, _, I5, q⟩
end
end Pu
namespace K09
open PySem PySem.Spec PyProof.Rows L2 GxR Pu Evl Sh Sv
/-- a stretch's span, of these values -/
def spn (v : List Int) (p : Nat × Nat) : S5 := ⟨p.1, p.2, (sl v p).sum, lmin (sl v p), lmax (sl v p)⟩
theorem tot1 {A : Int} : tot [A] = A := by show (0 : Int) + A = A; omega
theorem tot2 {A B : Int} : tot [A, B] = A + B := by show ((0 : Int) + A) + B = A + B; omega
def Vok (v : List Int) : Prop := v.length ≤ 1000 ∧ ∀ y ∈ v, -1000000 ≤ y ∧ y ≤ 1000000
theorem spn_ok {v : List Int} {a i : Nat} (hv : Vok v) (h : a + 2 ^ i ≤ v.length) : (spn v (a, 2 ^ i)).Ok := by
  have pos : 1 ≤ 2 ^ i := Nat.one_le_two_pow
  have hl : (sl v (a, 2 ^ i)).length = 2 ^ i := sl_len (p := (a, 2 ^ i)) h
  have ne := sl_ne (v := v) (p := (a, 2 ^ i)) h pos
  have m1 := lmin_spec ne
  have m2 := lmax_spec ne
  have b1 := hv.2 _ (sl_mem m1.1)
  have b2 := hv.2 _ (sl_mem m2.1)
  have le := m1.2 _ m2.1
  have g1 := sum_ge1 m1.2 m2.1
  have g2 := sum_le1 m2.2 m1.1
  rw [hl] at g1 g2
  have v1 := hv.1
  generalize hS : (sl v (a, 2 ^ i)).sum = S at g1 g2
  generalize hA : lmin (sl v (a, 2 ^ i)) = A at *
  generalize hB : lmax (sl v (a, 2 ^ i)) = B at *
  have main : Good a (2 ^ i) S A B := by
    refine ⟨⟨i, rfl⟩, by omega, b1.1, le, b2.2, ?_, ?_, ?_⟩
    · unfold ends
      by_cases z : A = B
      · rw [if_pos z]; exact pos
      · rw [if_neg z]
        show 2 ≤ 2 ^ i
        cases hi : i with
        | zero =>
          exfalso
          subst hi
          have hl1 : (sl v (a, 2 ^ 0)).length = 1 := hl
          obtain ⟨x, hx⟩ := List.length_eq_one_iff.mp hl1
          rw [hx] at hA hB
          exact z (hA.symm.trans hB)
        | succ j => rw [Nat.pow_succ]; have : 1 ≤ 2 ^ j := Nat.one_le_two_pow; omega
    · unfold ends
      by_cases z : A = B
      · rw [if_pos z]
        subst z
        show tot [A] + (((2 ^ i : Nat) : Int) - ([A].length : Nat)) * A ≤ S
        have e : tot [A] = A := tot1
        rw [e, Int.sub_mul]
        simp
        simp at g1
        omega
      · rw [if_neg z]
        show tot [A, B] + (((2 ^ i : Nat) : Int) - ([A, B].length : Nat)) * A ≤ S
        have e : tot [A, B] = A + B := tot2
        rw [e, Int.sub_mul]
        simp
        simp at g1
        omega
    · unfold ends
      by_cases z : A = B
      · rw [if_pos z]
        subst z
        show S ≤ tot [A] + (((2 ^ i : Nat) : Int) - ([A].length : Nat)) * A
        have e : tot [A] = A := tot1
        rw [e, Int.sub_mul]
        simp
        simp at g2
        omega
      · rw [if_neg z]
        show S ≤ tot [A, B] + (((2 ^ i : Nat) : Int) - ([A, B].length : Nat)) * B
        have e : tot [A, B] = A + B := tot2
        rw [e, Int.sub_mul]
        simp
        simp at g2
        omega
  show Good a (2 ^ i) (sl v (a, 2 ^ i)).sum (lmin (sl v (a, 2 ^ i))) (lmax (sl v (a, 2 ^ i)))
  rw [hS, hA, hB]
  exact main
theorem spn_join {v : List Int} {a n : Nat} (h : a + n + n ≤ v.length) (h1 : 1 ≤ n) : (spn v (a, n)).join (spn v (a + n, n)) = spn v (a, 2 * n) := by
  have n1 := sl_ne (v := v) (p := (a, n)) (by show a + n ≤ v.length; omega) h1
  have n2 := sl_ne (v := v) (p := (a + n, n)) h h1
  have e : sl v (a, 2 * n) = sl v (a, n) ++ sl v (a + n, n) := by rw [sl_two, Nat.two_mul]
  unfold spn S5.join
  dsimp only
  rw [e, List.sum_append, lmin_app n1 n2, lmax_app n1 n2, Nat.two_mul]
theorem spn_snoc {v : List Int} {p : Nat × Nat} {x : Int} (h : p.1 + p.2 ≤ v.length) : spn (v ++ [x]) p = spn v p := by
  unfold spn
  rw [sl_snoc h]
theorem spn_last {v : List Int} {x : Int} : spn (v ++ [x]) (v.length, 1) = rowS v.length x := by
  unfold spn
  rw [sl_last]
  unfold rowS
  congr 1
  simp
end K09
set_option Elab.async false
set_option linter.all false
set_option maxRecDepth 100000
set_option maxHeartbeats 4000000
namespace K09
open PySem PySem.Spec PyProof.Rows L2 GxR Pu Evl Sh Sv
abbrev nSet : List Str := ["spans", "keep", "kept", "size", "places", "eldest", "at", "span"]
theorem scSettled : FnScope nSet ["spans", "keep"] (defScope sSettled) := ⟨rfl, rfl, rfl, by decide +kernel, rfl, by decide +kernel, by decide +kernel⟩
/-- one row more, settled -/
def Rl (k : Nat) (L L' : List S5) : Prop := ∃ (f m : Nat) (v : List Int), 2 ≤ k ∧ k ≤ 8 ∧ Vok v ∧ f + m + 1 = v.length ∧ L = (lvl f (counts k m) 1 []).map (spn v) ∧ L' = (sh f (counts k (m + 1)) 1).map (spn v)
theorem wipe2 {σ : L2.St} {i j : Nat} {x y : Option V} (h : i ≠ j) : wipe (((wipe σ [i, j]).set i x).set j y) [i, j] = wipe σ [i, j] := by
  show (((((σ.set j none).set i none).set i x).set j y).set j none).set i none = (σ.set j none).set i none
  rw [List.set_set, List.set_set, List.set_comm _ _ h, List.set_set, List.set_set]
def szI (L : List (Nat × Nat)) : List Int := L.map fun p => (p.2 : Int)
section
variable {P : Program} {w : World} {K : PySem.W.Frag} {mg : Str → Option Value} {base : Heap} {σ : L2.St} {H : Hp}
variable {fJo : Addr} {dJo : FuncData}
theorem idx_snoc (s : Nat) (L : List (Nat × Nat)) (p : Nat × Nat) : idx s 0 (L ++ [p]) = idx s 0 L ++ if p.2 = s then [L.length] else [] := by
  rw [idx_app, Nat.zero_add]
  congr 1
/-- [at for at, span in enumerate(kept) if span[1] == size] -/
theorem q_places {p : Addr} {xs : List V} {S : List (Nat × Nat)} {v : List Int} {s : Nat} (len : σ.length = 8) (h2 : σ[2]? = some (some (.ref p))) (h3 : σ[3]? = some (some (.int (s : Int)))) (hp : H p = some (.lst xs)) (hw : Paired (SpT H) (S.map (spn v)) xs) (hl : S.length ≤ 2000) {Q : VK}
    (k : ∀ D H', H D = none → Ex H H' → H' D = some (.lst (natsV (idx s 0 S))) → Q (.ref D) H') :
    tLc (iEnum K (tCons (tVar 2) tNil)) (gTup K 2 (gCons (gName 6) (gCons (gName 7) gNil))) (tTest (tOp rEq (tOp (rIx K) (tVar 7) (tC (.int 1))) (tVar 3))) (tVar 6) [6, 7] σ H Q := by
  have hxl : S.length = xs.length := by have := Paired.length hw; rw [List.length_map] at this; exact this
  refine ⟨.ref p, h2, p, xs, rfl, SqL.of hp, fun D hD => ?_⟩
  have w0 : ((wipe σ [6, 7])).length = 8 := by rw [wipe_length]; exact len
  refine lc_gen (walk_enum (K := K) (a := p) (xs := xs)) (fun m H' acc => acc = natsV (idx s 0 (S.take m))) (by omega) hD (fun m H xs ys acc h r => r) rfl (fun H' e => SqL.of (e _ _ hp)) ?_ ?_
  · intro m y Ha Hb acc hi ex yy hR Qy Qn hy hn
    obtain ⟨T, a, b, rfl, hT, rfl, ha, hb⟩ := yy
    have ea : a = .int (m : Nat) := (Option.some.inj ha).symm
    subst ea
    obtain ⟨sp, hs, hq⟩ := Paired.atR hw hb
    rw [List.getElem?_map] at hs
    obtain ⟨q0, hq0, rfl⟩ := Option.map_eq_some_iff.mp hs
    have tk : S.take (m + 1) = S.take m ++ [q0] := by rw [List.take_add_one, hq0]; rfl
    have tl : (S.take m).length = m := by rw [List.length_take]; omega
    have exT := Ex.new hT (o := .tup [V.int (m : Nat), b])
    obtain ⟨b', rfl, hb'⟩ := (hq.ex ex).ex exT
    have i3 : (((wipe σ [6, 7]).set 6 (some (V.int (m : Nat)))).set 7 (some (.ref b')))[3]? = some (some (.int (s : Int))) := sl_ne (sl_ne (sl_ne (sl_ne h3 (by decide)) (by decide)) (by decide)) (by decide)
    have i7 : (((wipe σ [6, 7]).set 6 (some (V.int (m : Nat)))).set 7 (some (.ref b')))[7]? = some (some (.ref b')) := sl_eq (by rw [List.length_set, w0]; decide)
    have i6 : (((wipe σ [6, 7]).set 6 (some (V.int (m : Nat)))).set 7 (some (.ref b')))[6]? = some (some (.int (m : Nat))) := sl_ne (sl_eq (by rw [w0]; decide)) (by decide)
    refine ⟨T, _, rfl, SqT.of upd_same, rfl, _, _, rfl, _, _, rfl, rfl, wipe2 (by decide), ?_⟩
    refine ⟨_, i7, rd_ix (j := 1) ⟨b', rfl, .inl (SqT.of hb')⟩ rfl ⟨_, i3, rfl, _, rfl, ite2 (fun c => ?_) fun c => ?_⟩⟩
    · have c' : q0.2 = s := by
        simp [spn] at c
        omega
      refine ⟨_, i6, hy _ _ exT ?_⟩
      rw [tk, idx_snoc, if_pos c', hR, tl]
      show _ = natsV (_ ++ [m])
      unfold natsV
      rw [List.map_append]
      rfl
    · have c' : ¬ q0.2 = s := fun z => c (by simp [spn, z])
      refine hn _ exT ?_
      rw [tk, idx_snoc, if_neg c', List.append_nil]
      exact hR
  · intro H4 acc e4 hD4 hR
    rw [← hxl, List.take_length] at hR
    exact k D H4 hD e4 (by rw [hD4, hR])
theorem PairedU {L : List S5} {xs : List V} {H : Hp} {p : Addr} {o : HO} {zs : List V} (h : Paired (SpT H) L xs) (hp : H p = some (.lst zs)) : Paired (SpT (upd H p o)) L xs := Paired.mapP h fun _ _ ⟨b, h1, h2⟩ => ⟨b, h1, by rw [upd_ne (fun z => by rw [z, hp] at h2; cases h2)]; exact h2⟩
theorem Paired.atL {α β : Type} {F : α → β → Prop} {l : List α} {m : List β} (h : Paired F l m) : ∀ {i : Nat} {x : α}, l[i]? = some x → ∃ b, m[i]? = some b ∧ F x b := by
  induction h with
  | nil => intro i x e; cases e
  | cons r t ih =>
    intro i x e
    cases i with
    | zero => cases e; exact ⟨_, rfl, r⟩
    | succ i => exact ih e
theorem Paired.takeP {α β : Type} {F : α → β → Prop} {l : List α} {m : List β} (h : Paired F l m) : ∀ n, Paired F (l.take n) (m.take n) := by
  induction h with
  | nil => intro n; rw [List.take_nil, List.take_nil]; exact .nil
  | cons r t ih =>
    intro n
    cases n with
    | zero => exact .nil
    | succ n => exact .cons r (ih n)
theorem Paired.dropP {α β : Type} {F : α → β → Prop} {l : List α} {m : List β} (h : Paired F l m) : ∀ n, Paired F (l.drop n) (m.drop n) := by
  induction h with
  | nil => intro n; rw [List.drop_nil, List.drop_nil]; exact .nil
  | cons r t ih =>
    intro n
    cases n with
    | zero => exact .cons r t
    | succ n => exact ih n
theorem gName_of {i : Nat} {x : V} {σ : L2.St} {H : Hp} {Q : L2.St → Hp → Prop} (h : Q (σ.set i (some x)) H) : gName i x σ H Q := h
theorem asg_of {te : TE} {g : TG} {u : TS} {D : Ends} {σ : L2.St} {H : Hp} (h : te σ H fun x H1 => g x σ H1 (u D)) : tSeq (tAsg te g) u D σ H := h
theorem asg1_of {te : TE} {g : TG} {D : Ends} {σ : L2.St} {H : Hp} (h : te σ H fun x H1 => g x σ H1 D.nx) : tAsg te g D σ H := h
theorem ok_settled {f : Addr} {fd : FuncData} (G : Mg mg) (F : Fun K "settled" "settled" sSettled f fd) (F1 : Fns K mg "join" ["one", "other"] sJoin fJo dJo) (G1 : FnOk P w K mg base CX0 5 fJo dJo ["one", "other"] (spJoin K)) : FnOk P w K mg base CX0 6 f fd ["spans", "keep"] (spSettled Rl) := by
  refine F.ok scSettled (fun vs H Q E h => ?_) (fun cdv A outer s H vs Q E hr h => ?_)
  · obtain ⟨k, e, L, L', xs, rfl, _⟩ := h
    rfl
  · obtain ⟨k, e, L, L', xs, rfl, he, hw, ⟨f0, m, v, k2, k8, hv, hl, rfl, rfl⟩, kk⟩ := h
    refine ⟨_, pss_cons (ps_set (i := 2) scSettled.nd rfl (.inl rfl) (pe_callTy (T := "list") call_list_of (by rfl) G.list (by decide +kernel) (pa_cons (pv 0) pa_nil)))
      (pss_cons (ps_set (i := 3) scSettled.nd rfl (.inr rfl) pe_int)
      (pss_cons (ps_setLc (i := 4) (own := [("at", 6), ("span", 7)]) (g := gTup K 2 (gCons (gName 6) (gCons (gName 7) gNil))) (tt := tTest (tOp rEq (tOp (rIx K) (tVar 7) (tC (.int 1))) (tVar 3))) (te := tVar 6) (by rfl) scSettled.nd rfl rfl (sw_true rfl rfl rfl (by decide +kernel))
          (pi_enum (by rfl) G.enumerate (pa_cons (pv 2) pa_nil)) (blkOk_by (own := [("at", 6), ("span", 7)]) (N := nSet) (sc := defScope sSettled) (by decide +kernel))
          (fun _ _ _ _ _ => pg_tup rfl (pgs_cons (pg_name (i := 6) scSettled.nd rfl (.inl rfl)) (pgs_cons (pg_name (i := 7) scSettled.nd rfl (.inl rfl)) pgs_nil)))
          (fun _ _ _ _ _ => pts_one (pt_cmpR op_eq (pe_ix ix_seq (pv 7) pe_int (fun _ _ => rfl)) (pv 3) (nomark _))) (fun _ _ _ _ _ => pv 6))
      (pss_cons (ps_while PassesOwn.never (pt_cmpR op_gt (pe_callB call_len_seq (by rfl) G.len PySem.boot_len (pa_cons (pv 4) pa_nil)) (pv 1) (nomark _))
        (pss_cons (ps_set (i := 5) scSettled.nd rfl (.inl rfl) (pe_ix ix_seq (pv 4) pe_int (fun _ _ => rfl)))
        (pss_cons (ps_asg (pe_lst (pa_cons (pe_call G1 hr (by rfl) F1.mg F1.fn.kp F1.bd .nil pass0 (pa_cons (pe_ix ix_seq (pv 2) (pv 5) (fun _ _ => rfl)) (pa_cons (pe_ix ix_seq (pv 2) (pe_op op_add (pv 5) pe_int) (fun _ _ => rfl)) pa_nil))) pa_nil))
            (pg_subSl (pv 2) (po_some (pv 5)) (po_some (pe_op op_add (pv 5) pe_int))))
        (pss_cons (ps_aug (i := 3) scSettled.nd rfl (.inr rfl) pe_int iop_mul)
        (pss_one (ps_setLc (i := 4) (own := [("at", 6), ("span", 7)]) (g := gTup K 2 (gCons (gName 6) (gCons (gName 7) gNil))) (tt := tTest (tOp rEq (tOp (rIx K) (tVar 7) (tC (.int 1))) (tVar 3))) (te := tVar 6) (by rfl) scSettled.nd rfl rfl (sw_true rfl rfl rfl (by decide +kernel))
          (pi_enum (by rfl) G.enumerate (pa_cons (pv 2) pa_nil)) (blkOk_by (own := [("at", 6), ("span", 7)]) (N := nSet) (sc := defScope sSettled) (by decide +kernel))
          (fun _ _ _ _ _ => pg_tup rfl (pgs_cons (pg_name (i := 6) scSettled.nd rfl (.inl rfl)) (pgs_cons (pg_name (i := 7) scSettled.nd rfl (.inl rfl)) pgs_nil)))
          (fun _ _ _ _ _ => pts_one (pt_cmpR op_eq (pe_ix ix_seq (pv 7) pe_int (fun _ _ => rfl)) (pv 3) (nomark _))) (fun _ _ _ _ _ => pv 6)))))))
      (pss_one (ps_ret (pe_callTy (T := "tuple") call_tuple_of (by rfl) G.tuple (by decide +kernel) (pa_cons (pv 2) pa_nil))))))), ?_⟩
    refine ⟨_, rfl, e, xs, rfl, .inl (SqL.of he), fun p hp => ?_⟩
    have e1 := Ex.new hp (o := .lst xs)
    have hw1 := Paired.mapP hw fun _ _ h => h.ex e1
    have hb : ∀ m, (∃ q ∈ counts k m, q = 0) → False := fun m ⟨q, hq, z⟩ => by
      by_cases c : 0 < m
      · have := (val_all k2 (counts_val k2 m c) q hq).1; omega
      · rw [show m = 0 by omega, counts_zero] at hq; cases hq
    have hk : ∀ c ∈ counts k m, 1 ≤ c ∧ c ≤ k := fun c hc => by
      by_cases z : 0 < m
      · exact val_all k2 (counts_val k2 m z) c hc
      · rw [show m = 0 by omega, counts_zero] at hc; cases hc
    have lvlen : ∀ (ds : List Nat) (s : Nat) (low : List (Nat × Nat)), 0 < s → f0 + Sh.tot ds s + s ≤ v.length → low.length ≤ v.length → (lvl f0 ds s low).length ≤ 2000 := fun ds s low hs h1 h2 => by
      unfold lvl
      have a := sh_len (bump ds) s f0 hs
      rw [tot_bump] at a
      have := hv.1
      rw [List.length_append]
      omega
    refine gName_of ?_
    dsimp only
    refine q_asg (v := .int 1) ev_c fun H0 e0 => ?_
    refine asg_of (q_places (S := lvl f0 (counts k m) 1 []) (s := 1) rfl rfl rfl (e0 _ _ upd_same) (Paired.mapP hw1 fun _ _ h => h.ex e0) (lvlen _ _ _ (by decide) (by rw [counts_tot k2]; omega) (Nat.zero_le _)) fun D H1 hD ex1 hD1 => ?_)
    have e01 := e0.trans ex1
    refine ⟨fun n σ' H' => ∃ (D : Addr) (y5 : Option V) (ys : List V) (ds : List Nat) (low : List (Nat × Nat)) (i : Nat), σ' = [some (.ref e), some (.int (k : Int)), some (.ref p), some (.int ((2 ^ i : Nat) : Int)), some (.ref D), y5, none, none] ∧ ds.length = n ∧ Ex H H' ∧ H' p = some (.lst ys) ∧
        Paired (SpT H') ((lvl f0 ds (2 ^ i) low).map (spn v)) ys ∧ H' D = some (.lst (natsV (idx (2 ^ i) 0 (lvl f0 ds (2 ^ i) low)))) ∧ (∀ p ∈ low, p.2 < 2 ^ i) ∧ (∀ d ∈ ds, 1 ≤ d ∧ d ≤ k) ∧ f0 + Sh.tot ds (2 ^ i) + 2 ^ i + low.length ≤ v.length ∧ sh f0 (inc k ds) (2 ^ i) ++ low = sh f0 (counts k (m + 1)) 1,
      ⟨_, D, none, xs, counts k m, [], 0, rfl, rfl, e1.trans e01, e01 _ _ upd_same, Paired.mapP hw1 fun _ _ h => h.ex e01, hD1, (fun _ h => nomatch h), hk, by rw [counts_tot k2]; simp; omega, by rw [List.append_nil, inc_counts k2]⟩, ?_⟩
    rintro n σ' H' ⟨D, y5, ys, ds, low, i, rfl, rfl, ex, hp', hw', hD', hlow, hds, hlen, hfin⟩
    have p2 : 0 < 2 ^ i := Nat.two_pow_pos i
    refine ⟨_, rfl, D, _, rfl, .inl (SqL.of hD'), _, rfl, _, _, rfl, rfl, _, rfl, ite2 (fun c => ?_) fun c => ?_⟩
    · have c' : k < (idx (2 ^ i) 0 (lvl f0 ds (2 ^ i) low)).length := by
        have := of_decide_eq_true c
        simp [natsV] at this
        omega
      cases ds with
      | nil => rw [idx_lvl0 hlow] at c'; omega
      | cons c0 ds =>
        obtain ⟨r, hr1, hr2⟩ := idx_lvl (f := f0) (c := c0) (ds := ds) p2 hlow
        rw [hr1, List.length_cons, hr2] at c'
        have c1 := hds c0 List.mem_cons_self
        have ck : ¬ c0 < k := by omega
        obtain ⟨r2, hl1, hl2⟩ := lvl_step (f := f0) (s := 2 ^ i) (ds := ds) (low := low) c1.1
        have h2i : 2 * 2 ^ i = 2 ^ (i + 1) := by rw [Nat.pow_succ]; omega
        rw [h2i] at hl1 hl2 hr1
        have t0 : Sh.tot (c0 :: ds) (2 ^ i) = Sh.tot ds (2 ^ (i + 1)) + 2 ^ i * c0 := by
          rw [← h2i]
          rfl
        rw [t0] at hlen
        have mc : 2 ^ i * 1 ≤ 2 ^ i * c0 := Nat.mul_le_mul_left _ c1.1
        rw [hr1] at hD'
        rw [hl1] at hw'
        generalize hA : sh f0 ds (2 ^ (i + 1)) = A at *
        generalize hB : f0 + Sh.tot ds (2 ^ (i + 1)) = B at *
        have hys : (A ++ (B, 2 ^ i) :: (B + 2 ^ i, 2 ^ i) :: r2).length = ys.length := by have := Paired.length hw'; rw [List.length_map] at this; exact this
        rw [List.length_append, List.length_cons, List.length_cons] at hys
        have g1 : ((A ++ (B, 2 ^ i) :: (B + 2 ^ i, 2 ^ i) :: r2).map (spn v))[A.length]? = some (spn v (B, 2 ^ i)) := by
          rw [List.getElem?_map, List.getElem?_append_right (Nat.le_refl _), Nat.sub_self]; rfl
        have g2 : ((A ++ (B, 2 ^ i) :: (B + 2 ^ i, 2 ^ i) :: r2).map (spn v))[A.length + 1]? = some (spn v (B + 2 ^ i, 2 ^ i)) := by
          rw [List.getElem?_map, List.getElem?_append_right (Nat.le_succ _), show A.length + 1 - A.length = 1 by omega]; rfl
        obtain ⟨y1, hy1, s1⟩ := Paired.atL hw' g1
        obtain ⟨y2, hy2, s2⟩ := Paired.atL hw' g2
        have v1 := hv.1
        have a1 : A.length + 2 ≤ ys.length := by omega
        have hyl : ys.length ≤ 3000 := by
          have a := lvlen (c0 :: ds) (2 ^ i) low p2 (by rw [t0]; omega) (by omega)
          rw [hl1, List.length_append, List.length_cons, List.length_cons] at a
          omega
        have bb1 : B + 2 ^ i + 2 ^ i ≤ v.length := by omega
        refine ⟨fun σ2 H2 => ∃ m', m' < (c0 :: ds).length ∧ _, fun σ2 H2 h => h, ?_⟩
        refine ⟨_, rfl, .inl ⟨D, _, _, _, rfl, rfl, SqL.of hD', atI_nat (j := 0) rfl, ?_⟩⟩
        refine ⟨.ref p, rfl, .int (A.length : Nat), rfl, .inl ⟨p, ys, _, y1, rfl, rfl, SqL.of hp', atI_nat hy1, ?_⟩⟩
        refine ⟨.ref p, rfl, .int (A.length : Nat), rfl, _, _, rfl, rfl, .inl ⟨p, ys, _, y2, rfl, rfl, SqL.of hp', atI_nat (j := A.length + 1) hy2, ?_⟩⟩
        refine ⟨_, _, y1, y2, rfl, s1.e, s2.e, spn_ok hv (by omega), spn_ok hv (by omega), rfl, rfl, fun q H3 hq e3 h3 => ⟨by show 1 ≤ sizeLine; decide, fun b hb => ?_⟩⟩
        have e4 := Ex.new hb (o := .lst [V.ref q])
        have e34 := e3.trans e4
        have pb : p ≠ b := fun z => by rw [← z, e3 _ _ hp'] at hb; cases hb
        refine ⟨.ref p, rfl, .int (A.length : Nat), rfl, (A.length : Nat), rfl, .int (A.length : Nat), rfl, _, _, rfl, rfl, _, rfl, p, b, ys, [.ref q], A.length, A.length + 2, rfl, rfl, rfl, rfl, e34 _ _ hp', upd_same, pb, by omega, a1, Nat.le_trans (show ys.length + 1 ≤ 3001 by omega) (by decide), ?_⟩
        refine ⟨_, rfl, _, _, rfl, rfl, .inr ⟨by decide, by decide⟩, ?_⟩
        have pw : ((2 ^ i : Nat) : Int) * 2 = ((2 ^ (i + 1) : Nat) : Int) := by rw [Nat.pow_succ]; omega
        have w3 : Paired (SpT (upd H3 b (.lst [V.ref q]))) ((lvl f0 ds (2 ^ (i + 1)) (lows f0 (c0 - 1) (2 ^ i) (Sh.tot ds (2 ^ (i + 1)) + 2 ^ (i + 1)) low)).map (spn v)) (ys.take A.length ++ [V.ref q] ++ ys.drop (A.length + 2)) := by
          have hw4 := Paired.mapP hw' fun _ _ h => h.ex e34
          have x1 := Paired.takeP hw4 A.length
          have x2 := Paired.dropP hw4 (A.length + 2)
          rw [← List.map_take, List.take_left] at x1
          rw [← List.map_drop, List.drop_append, show A.length + 2 - A.length = 2 by omega, List.drop_of_length_le (by omega : A.length ≤ A.length + 2), List.nil_append] at x2
          rw [hl2, List.map_append, List.append_assoc]
          refine Paired.app x1 (.cons ⟨q, rfl, e4 _ _ ?_⟩ x2)
          rw [h3, spn_join bb1 p2, h2i]
        have w4 := PairedU (o := .lst (ys.take A.length ++ [V.ref q] ++ ys.drop (A.length + 2))) w3 (e34 _ _ hp')
        have exA : Ex H (upd (upd H3 b (.lst [V.ref q])) p (.lst (ys.take A.length ++ [V.ref q] ++ ys.drop (A.length + 2)))) := Ex.mut (ex.trans e34) hp
        have hlow' := lows_lt (f := f0) (c := c0 - 1) (s := 2 ^ i) (t := Sh.tot ds (2 ^ (i + 1)) + 2 ^ (i + 1)) p2 hlow
        have hll : (lows f0 (c0 - 1) (2 ^ i) (Sh.tot ds (2 ^ (i + 1)) + 2 ^ (i + 1)) low).length = c0 - 1 + low.length := by
          unfold lows
          rw [List.length_append, List.length_map, List.length_range]
        have cle : c0 ≤ 2 ^ i * c0 := by
          have := Nat.mul_le_mul_right c0 p2
          omega
        have p21 : 2 ^ (i + 1) = 2 ^ i + 2 ^ i := by rw [Nat.pow_succ]; omega
        have mcc : 2 ^ i + (c0 - 1) ≤ 2 ^ i * c0 := by
          obtain ⟨d, rfl⟩ : ∃ d, c0 = d + 1 := ⟨c0 - 1, by omega⟩
          have : d ≤ 2 ^ i * d := by have := Nat.mul_le_mul_right d p2; omega
          rw [Nat.mul_add, Nat.mul_one]
          omega
        refine asg1_of (q_places (S := lvl f0 ds (2 ^ (i + 1)) (lows f0 (c0 - 1) (2 ^ i) (Sh.tot ds (2 ^ (i + 1)) + 2 ^ (i + 1)) low)) (v := v) (s := 2 ^ (i + 1)) rfl rfl (by rw [← pw]; rfl) upd_same w4 ?_ fun D2 H5 hD2 e5 h5 => ?_)
        · refine lvlen _ _ _ (Nat.two_pow_pos _) (by omega) (by omega)
        refine ⟨ds.length, by rw [List.length_cons]; omega, D2, some (.int (A.length : Nat)), _, ds, _, i + 1, ?_, rfl, exA.trans e5, e5 _ _ upd_same, Paired.mapP w4 fun _ _ h => h.ex e5, h5, ?_, fun d hd => hds d (List.mem_cons_of_mem _ hd), by omega, ?_⟩
        · rw [← pw]
          rfl
        · rw [h2i] at hlow'; exact hlow'
        · rw [← hfin, lvl_fin ck fun d hd => (hds d (List.mem_cons_of_mem _ hd)).1, h2i]
    · have c' : ¬ k < (idx (2 ^ i) 0 (lvl f0 ds (2 ^ i) low)).length := fun z => c (decide_eq_true (by simp [natsV]; omega))
      have hend : lvl f0 ds (2 ^ i) low = sh f0 (counts k (m + 1)) 1 := by
        rw [← hfin]
        cases ds with
        | nil => rfl
        | cons c0 ds =>
          obtain ⟨r, hr1, hr2⟩ := idx_lvl (f := f0) (c := c0) (ds := ds) p2 hlow
          rw [hr1, List.length_cons, hr2] at c'
          exact lvl_end (by omega)
      rw [hend] at hw'
      refine ⟨_, rfl, p, ys, rfl, .inl ⟨SqL.of hp', fun l hl => ?_⟩⟩
      have e9 := Ex.new hl (o := .tup ys)
      exact kk l ys _ (fresh_back ex hl) (ex.trans e9) upd_same (Paired.mapP hw' fun _ _ h => h.ex e9)
end
end K09
set_option Elab.async false
set_option linter.all false
set_option maxRecDepth 100000
set_option maxHeartbeats 4000000
namespace K09
open PySem PySem.Spec PyProof.Rows L2 GxR Pu Evl Sh Sv
theorem scIsStore : FnScope ["keep", "value", "laid", "last", "spans"] ["keep", "value"] (defScope sIsStore) := ⟨rfl, rfl, rfl, by decide +kernel, rfl, by decide +kernel, by decide +kernel⟩
theorem scLaidAll : FnScope ["keep", "rows", "store", "stamp", "told"] ["keep", "rows"] (defScope sLaidAll) := ⟨rfl, rfl, rfl, by decide +kernel, rfl, by decide +kernel, by decide +kernel⟩
/-- what stands stays, but for two tables -/
def ExT2 (T U : Addr) (H H' : Hp) : Prop := TabG H' T ∧ TabG H' U ∧ ∀ b o, b ≠ T → b ≠ U → H b = some o → H' b = some o
def spIsStore (T U : Addr) : Sp := fun vs H Q _ => ∃ (k l f : Nat) (la : Option Nat) (L : List S5) (v : V), vs = [.int (k : Int), v] ∧ 2 ≤ k ∧ k ≤ 8 ∧ StT H l la L v ∧ (la = none ↔ l = 0) ∧ (∀ s ∈ L, s.Ok) ∧ f ≤ l ∧ l ≤ 1000 ∧ (L.map fun s => (s.f, s.n)) = shp k f l ∧ TabG H T ∧ TabG H U ∧ T ≠ U ∧
  ∀ H', ExT2 T U H H' → Q (.bl true) H'
section
variable {P : Program} {w : World} {K : PySem.W.Frag} {mg : Str → Option Value} {base : Heap} {σ : L2.St} {H H' : Hp} {T U : Addr}
variable {fNN fNK fSF fNum fInt fPar fSq fSpa fISh fSO : Addr} {dNN dNK dSF dNum dInt dPar dSq dSpa dISh dSO : FuncData}
theorem TabG.exT {V' : Addr} (t : TabG H V') (e : ExT T H H') (n : V' ≠ T) : TabG H' V' := by
  obtain ⟨ps, h1, h2⟩ := t
  exact ⟨ps, e.2 _ _ n h1, h2⟩
theorem StT.exT {l : Nat} {la : Option Nat} {L : List S5} {v : V} (h : StT H l la L v) (t : TabG H T) (e : ExT T H H') : StT H' l la L v := by
  obtain ⟨a, b, xs, rfl, h1, h2, h3⟩ := h
  have go : ∀ {q : Addr} {ys : List V}, H q = some (.tup ys) → H' q = some (.tup ys) := fun {q ys} z => e.2 _ _ (TabG.ne t z fun ps z => by cases z) z
  exact ⟨a, b, xs, rfl, go h1, go h2, Paired.mapP h3 fun _ _ ⟨b, h1, h2⟩ => ⟨b, h1, go h2⟩⟩
theorem StT.exT2 {l : Nat} {la : Option Nat} {L : List S5} {v : V} (h : StT H l la L v) (t : TabG H T) (u : TabG H U) (e : ExT2 T U H H') : StT H' l la L v := by
  obtain ⟨a, b, xs, rfl, h1, h2, h3⟩ := h
  have go : ∀ {q : Addr} {ys : List V}, H q = some (.tup ys) → H' q = some (.tup ys) := fun {q ys} z => e.2.2 _ _ (TabG.ne t z fun ps z => by cases z) (TabG.ne u z fun ps z => by cases z) z
  exact ⟨a, b, xs, rfl, go h1, go h2, Paired.mapP h3 fun _ _ ⟨b, h1, h2⟩ => ⟨b, h1, go h2⟩⟩
theorem ok_is_store {f : Addr} {fd : FuncData} (M : L2.Mod K mg base) (G : Mg mg) (F : Fun K "is_store" "is_store" sIsStore f fd) (B : Base P w K mg base fNN fNK fSF dNN dNK dSF)
    (F1 : Fns K mg "need_keep" ["keep"] sNeedKeep fNK dNK) (F2 : Fns K mg "is_of_parts" ["value", "many"] sIsOfParts fPar dPar) (F3 : Fns K mg "is_sequence" ["value"] sIsSequence fSq dSq) (F4 : Fns K mg "is_number" ["value"] sIsNumber fNum dNum) (F5 : Fns K mg "is_integer" ["value"] sIsInteger fInt dInt)
    (F6 : Fns K mg "are_spans" ["value"] sAreSpans fSpa dSpa) (G6 : FnOk P w K mg base CX0 6 fSpa dSpa ["value"] (spSpans K T)) (F7 : Fns K mg "is_shape" ["keep", "laid", "value"] sIsShape fISh dISh) (G7 : FnOk P w K mg base CX0 6 fISh dISh ["keep", "laid", "value"] (spIsShape K U))
    (F8 : Fns K mg "shape_of" ["store"] sShapeOf fSO dSO) (G8 : FnOk P w K mg base CX0 1 fSO dSO ["store"] (spShapeOf K)) : FnOk P w K mg base CX0 7 f fd ["keep", "value"] (spIsStore T U) := by
  have G2 : FnOk P w K mg base CX0 2 fPar dPar ["value", "many"] (spPure P w base ["value", "many"] pOfParts) := (pf_is_of_parts M G F2.fn F3.fn F3.bd F3.mg).ok
  have G4 : FnOk P w K mg base CX0 2 fNum dNum ["value"] (spPure P w base ["value"] pNumber) := (pf_is_number M G F4.fn F5.fn F5.bd F5.mg).ok
  refine F.ok scIsStore (fun vs H Q E h => ?_) (fun cdv A outer s H vs Q E hr h => ?_)
  · obtain ⟨k, l, f, la, L, v, rfl, _⟩ := h
    rfl
  · obtain ⟨k, l, f0, la, L, v, rfl, k2, k8, hs, hla, hok, hfl, hl, hsh, tT, tU, nTU, kk⟩ := h
    refine ⟨_, pss_cons (ps_expr (pe_call B.nk (hr.mono (by decide)) (by rfl) F1.mg F1.fn.kp F1.bd .nil pass0 (pa_cons (pv 0) pa_nil)))
      (pss_cons (ps_if (pt_not (pt_val (pe_call G2 (hr.mono (by decide)) (by rfl) F2.mg F2.fn.kp F2.bd .nil pass0 (pa_cons (pv 1) (pa_cons pe_int pa_nil))))) (pss_one (ps_ret pe_bl)) pss_nil)
      (pss_cons (ps_asg (pv 1) (pg_seq rfl (pgs_cons (pg_name (i := 2) scIsStore.nd rfl (.inl rfl)) (pgs_cons (pg_name (i := 3) scIsStore.nd rfl (.inl rfl)) (pgs_cons (pg_name (i := 4) scIsStore.nd rfl (.inl rfl)) pgs_nil)))))
      (pss_cons (ps_if (PW.pt (pw_or (pt_not (pt_val (pe_call G4 (hr.mono (by decide)) (by rfl) F4.mg F4.fn.kp F4.bd .nil pass0 (pa_cons (pv 2) pa_nil)))) (pw_or1 (pt_not (pt_val (pe_call G6 hr (by rfl) F6.mg F6.fn.kp F6.bd .nil pass0 (pa_cons (pv 4) pa_nil))))))) (pss_one (ps_ret pe_bl)) pss_nil)
      (pss_cons (ps_if (PW.pt (pw_or (PW.pt (pw_and (pt_cmpR op_eq (pv 2) pe_int (nomark _)) (pw_and1 (pt_cmp (pc_notN (pv 3)))))) (pw_or1 (PW.pt (pw_and (pt_cmpR op_gt (pv 2) pe_int (nomark _)) (pw_and1 (pt_not (pt_val (pe_call G4 (hr.mono (by decide)) (by rfl) F4.mg F4.fn.kp F4.bd .nil pass0 (pa_cons (pv 3) pa_nil)))))))))) (pss_one (ps_ret pe_bl)) pss_nil)
      (pss_one (ps_ret (pe_call G7 hr (by rfl) F7.mg F7.fn.kp F7.bd .nil pass0 (pa_cons (pv 0) (pa_cons (pv 2) (pa_cons (pe_call G8 (hr.mono (by decide)) (by rfl) F8.mg F8.fn.kp F8.bd .nil pass0 (pa_cons (pv 1) pa_nil)) pa_nil)))))))))), ?_⟩
    have hs0 := hs
    obtain ⟨a, e, xs, rfl, ha, he, hw⟩ := hs
    have hLl : L.length ≤ 2000 := by
      have : (L.map fun s => (s.f, s.n)).length ≤ l - f0 := by rw [hsh]; exact shp_len k2
      rw [List.length_map] at this
      omega
    refine q_drop (v := .non) (ev_call (ea_cons (ev_var rfl) ea_nil) (spV.use fun H1 _ => ⟨k, rfl, by omega, by omega, rfl⟩)) fun H1 e1 => ?_
    have ep : Ev (tCall (spPure P w base ["value", "many"] pOfParts) [] E0 (tCons (tVar 1) (tCons (tC (.int 3)) tNil))) (start ["keep", "value", "laid", "last", "spans"] [.int (k : Int), .ref a]) H1 (.bl true) := ev_call (ea_cons (ev_var rfl) (ea_cons ev_c ea_nil)) (spPure.use rfl fun H2 e2 h ok bx => by
      obtain ⟨bb, its, rv, sq⟩ := TyG.of_sq ok (M.kin.keeps bx) (.inl (SqT.of ((e1.trans e2) _ _ ha)))
      exact ⟨_, _, _, rfl, .seq sq, by rw [← rv.length]; rfl⟩)
    refine ep H1 (Ex.refl H1) _ fun H2 e2 => ⟨true, rfl, ite2 (fun z => nomatch z) fun _ => ?_⟩
    have e12 := e1.trans e2
    refine ⟨_, rfl, a, _, rfl, .inl (SqT.of (e12 _ _ ha)), rfl, _, _, rfl, _, _, rfl, _, _, rfl, rfl, ?_⟩
    have en : ∀ {σ : L2.St} {H3 : Hp} {i : Nat} {n : Nat}, σ[i]? = some (some (.int (n : Int))) → Ev (tCall (spPure P w base ["value"] pNumber) [] E0 (tCons (tVar i) tNil)) σ H3 (.bl true) := fun {σ H3 i n} hi => ev_call (ea_cons (ev_var hi) ea_nil) (spPure.use rfl fun H1 _ h _ _ => ⟨_, _, rfl, .int _, by rw [show isNum (.int (n : Int)) = true from decide_eq_true (show (n : Int) ≥ 0 by omega)]⟩)
    refine en rfl H2 (Ex.refl H2) _ fun H3 e3 => ⟨true, rfl, ite2 (fun z => nomatch z) fun _ => ?_⟩
    have e13 := e12.trans e3
    have s3 := hs0.ex e13
    have t3 := TabG.ex tT e13
    have u3 := TabG.ex tU e13
    refine ⟨.ref e, rfl, e, L, xs, rfl, .inl (SqT.of (e13 _ _ he)), Paired.mapP hw fun _ _ h => (h.ex e13).e, hok, t3, fun H4 x4 => ⟨true, rfl, ite2 (fun z => nomatch z) fun _ => ?_⟩⟩
    have s4 := s3.exT t3 x4
    have u4 := TabG.exT u3 x4 (Ne.symm nTU)
    have fin : ∀ H5, Ex H4 H5 → (tRet (tCall (spIsShape K U) [] E0 (tCons (tVar 0) (tCons (tVar 2) (tCons (tCall (spShapeOf K) [] E0 (tCons (tVar 1) tNil)) tNil))))) { nx := fun x H' => Q V.non H', rt := Q } [some (.int (k : Int)), some (.ref a), some (.int (l : Int)), some (nonV la), some (.ref e)] H5 := fun H5 e5 => by
      have s5 := s4.ex e5
      refine ⟨_, rfl, _, rfl, _, rfl, l, la, L, .ref a, rfl, s5.e, hLl, fun q ys H6 hq e6 h6 p6 => ?_⟩
      have u6 := TabG.ex (TabG.ex u4 e5) e6
      have t6 := TabG.ex (TabG.ex x4.1 e5) e6
      rw [hsh] at p6
      refine ⟨k, f0, l, .ref q, rfl, k2, k8, hfl, by omega, ShIn.of h6 p6, u6, fun H7 x7 => kk H7 ⟨?_, x7.1, fun b o n1 n2 hb => ?_⟩⟩
      · exact TabG.exT t6 x7 nTU
      · exact x7.2 b o n2 (e6 _ _ (e5 _ _ (x4.2 b o n1 (e13 _ _ hb))))
    cases la with
    | none =>
      have l0 : l = 0 := hla.mp rfl
      subst l0
      refine ⟨_, rfl, rfl, _, rfl, ite2 (fun _ => ⟨_, rfl, _, rfl, ite2 (fun z => nomatch z) fun _ => ?_⟩) fun z => absurd (by simp) z⟩
      exact ⟨_, rfl, _, _, rfl, rfl, _, rfl, ite2 (fun z => absurd (of_decide_eq_true z) (by simp)) fun _ => fin H4 (Ex.refl H4)⟩
    | some n =>
      have l0 : l ≠ 0 := fun z => nomatch hla.mpr z
      refine ⟨_, rfl, rfl, _, rfl, ite2 (fun z => absurd z (by simp; omega)) fun _ => ?_⟩
      refine ⟨_, rfl, _, _, rfl, rfl, _, rfl, ite2 (fun _ => ?_) fun z => absurd (decide_eq_true (show (0 : Int) < (l : Int) by omega)) z⟩
      exact en rfl H4 (Ex.refl H4) _ fun H5 e5 => ⟨true, rfl, ite2 (fun z => nomatch z) fun _ => fin H5 e5⟩
end
end K09
set_option Elab.async false
set_option linter.all false
set_option maxRecDepth 100000
set_option maxHeartbeats 4000000
namespace K09
open PySem PySem.Spec PyProof.Rows L2 GxR Pu Evl Sh Sv
/-- laid, last stamp, spans -/
abbrev St3 := Nat × Option Nat × List S5
/-- a row of a deed: a letting go, or a laying -/
def Step (k : Nat) (r : Option Nat × Int) (s t : St3) : Prop := s.2.2.length ≤ 2000 ∧ match r.1 with
  | none => ∃ b : Nat, r.2 = (b : Int) ∧ t = (s.1, s.2.1, stay s.2.2 b)
  | some st => ∃ L', (∀ n, s.2.1 = some n → n < st) ∧ -1000000 ≤ r.2 ∧ r.2 ≤ 1000000 ∧ Rl k (s.2.2 ++ [rowS s.1 r.2]) L' ∧ t = (s.1 + 1, some st, L')
def Run (k : Nat) (R : List (Option Nat × Int)) (t : St3) : Prop := ∃ g : Nat → St3, g 0 = (0, none, []) ∧ g R.length = t ∧ ∀ i r, R[i]? = some r → Step k r (g i) (g (i + 1))
theorem Run.nil {k : Nat} : Run k [] (0, none, []) := ⟨fun _ => (0, none, []), rfl, rfl, fun i r h => by cases h⟩
theorem Run.snoc {k : Nat} {R : List (Option Nat × Int)} {r : Option Nat × Int} {s t : St3} (h : Run k R s) (st : Step k r s t) : Run k (R ++ [r]) t := by
  obtain ⟨g, g0, g1, g2⟩ := h
  refine ⟨fun i => if i ≤ R.length then g i else t, by show (if 0 ≤ R.length then g 0 else t) = _; rw [if_pos (Nat.zero_le _)]; exact g0, ?_, fun i q hq => ?_⟩
  · show (if (R ++ [r]).length ≤ R.length then _ else t) = t
    rw [if_neg (by rw [List.length_append, List.length_singleton]; omega)]
  · have il : i < (R ++ [r]).length := (List.getElem?_eq_some_iff.mp hq).1
    rw [List.length_append, List.length_singleton] at il
    show Step k q (if i ≤ R.length then g i else t) (if i + 1 ≤ R.length then g (i + 1) else t)
    rw [if_pos (by omega)]
    by_cases c : i + 1 ≤ R.length
    · rw [if_pos c]
      rw [List.getElem?_append_left (by omega)] at hq
      exact g2 i q hq
    · rw [if_neg c]
      have e : i = R.length := by omega
      subst e
      rw [List.getElem?_append_right (Nat.le_refl _), Nat.sub_self] at hq
      cases hq
      rw [g1]
      exact st
/-- a row of deeds, a tuple -/
def RowT (H : Hp) (r : Option Nat × Int) (v : V) : Prop := ∃ b, v = .ref b ∧ H b = some (.tup [nonV r.1, .int r.2])
def spLaidAll (K : PySem.W.Frag) : Sp := fun vs H Q _ => ∃ (k : Nat) (e : Addr) (R : List (Option Nat × Int)) (xs : List V) (t : St3), vs = [.int (k : Int), .ref e] ∧ 2 ≤ k ∧ k ≤ 8 ∧ SqE K H e xs ∧ Paired (RowT H) R xs ∧ R.length ≤ 40000 ∧ Run k R t ∧
  ∀ u H', Ex H H' → StT H' t.1 t.2.1 t.2.2 u → Q u H'
section
variable {P : Program} {w : World} {K : PySem.W.Frag} {mg : Str → Option Value} {base : Heap} {σ : L2.St} {H H' : Hp}
variable {fNK fES fLG fLa : Addr} {dNK dES dLG dLa : FuncData}
theorem RowT.ex {r : Option Nat × Int} {v : V} (h : RowT H r v) (e : Ex H H') : RowT H' r v := by
  obtain ⟨b, rfl, q⟩ := h
  exact ⟨b, rfl, e _ _ q⟩
theorem ok_laid_all {f : Addr} {fd : FuncData} (F : Fun K "laid_all" "laid_all" sLaidAll f fd) (F1 : Fns K mg "need_keep" ["keep"] sNeedKeep fNK dNK) (G1 : FnOk P w K mg base CX0 3 fNK dNK ["keep"] (spV pKeep)) (F2 : Fns K mg "empty_store" [] sEmptyStore fES dES) (G2 : FnOk P w K mg base CX0 1 fES dES [] spEmpty)
    (F3 : Fns K mg "let_go" ["store", "below"] sLetGo fLG dLG) (G3 : FnOk P w K mg base CX0 4 fLG dLG ["store", "below"] spLetGo) (F4 : Fns K mg "lay" ["store", "keep", "stamp", "value"] sLay fLa dLa) (G4 : FnOk P w K mg base CX0 7 fLa dLa ["store", "keep", "stamp", "value"] (spLay Rl)) :
    FnOk P w K mg base CX0 8 f fd ["keep", "rows"] (spLaidAll K) := by
  refine F.ok scLaidAll (fun vs H Q E h => ?_) (fun cdv A outer s H vs Q E hr h => ?_)
  · obtain ⟨k, e, R, xs, t, rfl, _⟩ := h
    rfl
  · obtain ⟨k, e, R, xs, t, rfl, k2, k8, he, hw, hl, ⟨g, g0, g1, g2⟩, kk⟩ := h
    refine ⟨_, pss_cons (ps_expr (pe_call G1 (hr.mono (by decide)) (by rfl) F1.mg F1.fn.kp F1.bd .nil pass0 (pa_cons (pv 0) pa_nil)))
      (pss_cons (ps_set (i := 2) scLaidAll.nd rfl (.inl rfl) (pe_call0 G2 (hr.mono (by decide)) (by rfl) F2.mg F2.fn.kp F2.bd .nil pass0))
      (pss_cons (ps_for PassesOwn.never rfl (pi_seq (pv 1)) (pg_tup rfl (pgs_cons (pg_name (i := 3) scLaidAll.nd rfl (.inl rfl)) (pgs_cons (pg_name (i := 4) scLaidAll.nd rfl (.inl rfl)) pgs_nil)))
        (pss_one (ps_set (i := 2) scLaidAll.nd rfl (.inl rfl) (pe_ifExp (pt_cmp (pc_isN (pv 3))) (pe_call G3 (hr.mono (by decide)) (by rfl) F3.mg F3.fn.kp F3.bd .nil pass0 (pa_cons (pv 2) (pa_cons (pv 4) pa_nil)))
          (pe_call G4 hr (by rfl) F4.mg F4.fn.kp F4.bd .nil pass0 (pa_cons (pv 2) (pa_cons (pv 0) (pa_cons (pv 3) (pa_cons (pv 4) pa_nil)))))))))
      (pss_one (ps_ret (pv 2))))), ?_⟩
    refine q_drop (v := .non) (ev_call (ea_cons (ev_var rfl) ea_nil) (spV.use fun H1 _ => ⟨k, rfl, by omega, by omega, rfl⟩)) fun H1 e1 => ?_
    refine ⟨rfl, fun u H2 e2 h2 => ?_⟩
    have e12 := e1.trans e2
    have hw2 := Paired.mapP hw fun _ _ h => h.ex e12
    have hxl : R.length = xs.length := Paired.length hw
    refine ⟨.ref e, rfl, e, xs, rfl, SqE.ex he e12, fun J Gd wk hG => for_it wk (fun i σ' H' => ∃ y u y3 y4, σ' = [some (.int (k : Int)), y, some u, y3, y4] ∧ Ex H2 H' ∧ StT H' (g i).1 (g i).2.1 (g i).2.2 u) ⟨some (.ref e), u, none, none, rfl, Ex.refl H2, by rw [g0]; exact h2⟩ (fun i σ' H' _ p => ?_) ?_ ?_⟩
    · obtain ⟨_, _, _, _, _, ex, _⟩ := p
      exact hG H' ex
    · intro i x σ' Ha Hb hi hPv hy
      obtain ⟨y, u, y3, y4, rfl, ex, hu⟩ := hPv
      obtain ⟨rfl, hx⟩ := hy
      obtain ⟨r, hr1, hp⟩ := Paired.atR hw2 hx
      obtain ⟨b, rfl, hb⟩ := hp.ex ex
      have stp := g2 i r hr1
      obtain ⟨r1, r2⟩ := r
      obtain ⟨sl, stp⟩ := stp
      refine ⟨b, _, rfl, SqT.of hb, rfl, _, _, rfl, _, _, rfl, rfl, ?_⟩
      cases r1 with
      | none =>
        obtain ⟨bn, rfl, e5⟩ := stp
        refine ⟨_, rfl, _, rfl, ite2 (fun _ => ?_) fun z => absurd (by simp [nonV]) z⟩
        refine ⟨_, rfl, _, rfl, _, _, _, _, bn, rfl, hu.h, sl, fun u2 H3 e3 h3 => ?_⟩
        refine ⟨_, u2, _, _, rfl, ex.trans e3, ?_⟩
        rw [e5]
        exact h3
      | some st =>
        obtain ⟨L', l1, b1, b2, hR, e5⟩ := stp
        refine ⟨_, rfl, _, rfl, ite2 (fun z => absurd z (by simp [nonV])) fun _ => ?_⟩
        refine ⟨_, rfl, _, rfl, _, rfl, _, rfl, _, _, _, L', u, k, st, r2, rfl, hu.h, sl, k2, k8, l1, b1, b2, hR, fun u2 H3 e3 h3 => ?_⟩
        refine ⟨_, u2, _, _, rfl, ex.trans e3, ?_⟩
        rw [e5]
        exact h3
    · intro σ' H' p1
      obtain ⟨y, u, y3, y4, rfl, ex, hu⟩ := p1
      rw [← hxl, g1] at hu
      exact ⟨_, rfl, kk u H' (e12.trans ex) hu⟩
end
end K09
set_option Elab.async false
set_option linter.all false
set_option maxRecDepth 100000
set_option maxHeartbeats 4000000
/-! which size stands too often -/
namespace Sv
open Sh
def szN (L : List (Nat × Nat)) : List Int := L.map fun p => (p.2 : Int)
def cI (y : Int) (l : List Int) : Nat := (l.filter fun z => decide (z = y)).length
theorem cI_app (y : Int) (a b : List Int) : cI y (a ++ b) = cI y a + cI y b := by unfold cI; rw [List.filter_append, List.length_append]
theorem cI_perm {y : Int} {a b : List Int} (h : a.Perm b) : cI y a = cI y b := (h.filter _).length_eq
theorem cI_zero {y : Int} {a : List Int} (h : ∀ z ∈ a, z ≠ y) : cI y a = 0 := by
  unfold cI
  rw [List.filter_eq_nil_iff.mpr fun z hz => by rw [decide_eq_true_eq]; exact h z hz]
  rfl
theorem cI_sz (y : Nat) (L : List (Nat × Nat)) : cI (y : Int) (szN L) = (L.filter fun p => decide (p.2 = y)).length := by
  unfold cI szN
  rw [List.filter_map, List.length_map]
  congr 1
  refine List.filter_congr fun p _ => ?_
  show decide ((p.2 : Int) = (y : Int)) = decide (p.2 = y)
  exact decide_eq_decide.mpr (by omega)
theorem sz_app (a b : List (Nat × Nat)) : szN (a ++ b) = szN a ++ szN b := List.map_append ..
/-- of a shape no size stands more than keep times -/
theorem cI_shp {k f m : Nat} (hk : 2 ≤ k) (y : Int) : cI y (szN (sh f (counts k m) 1)) ≤ k := by
  by_cases c : ∃ p ∈ sh f (counts k m) 1, (p.2 : Int) = y
  · obtain ⟨p, hp, e⟩ := c
    obtain ⟨i, hi, e2⟩ := size_in _ _ _ p hp
    subst e
    rw [cI_sz, e2, count_sh _ 1 f i (by decide) hi]
    exact counts_le hk m i
  · rw [cI_zero]
    · omega
    · intro z hz e
      obtain ⟨p, hp, rfl⟩ := List.mem_map.mp hz
      exact c ⟨p, hp, e⟩
def over (k : Nat) (l : List Int) : List Int := l.filter fun y => decide (k < cI y l)
/-- nothing is over: the shape stands -/
theorem over_nil {k f m : Nat} (hk : 2 ≤ k) {l : List Int} (h : l.Perm (szN (sh f (counts k m) 1))) : over k l = [] := by
  unfold over
  refine List.filter_eq_nil_iff.mpr fun y _ => ?_
  rw [decide_eq_true_eq, cI_perm h]
  have := cI_shp (f := f) (m := m) hk y
  omega
/-- the least size that is over: the level's -/
theorem over_head {k f s m : Nat} (hk : 2 ≤ k) {ds : List Nat} {low : List (Nat × Nat)} (hs : 0 < s) (hl : ∀ p ∈ low, p.2 < s) (hf : sh f (inc k (k :: ds)) s ++ low = sh f (counts k m) 1) {l : List Int} (h : l.Perm (szN (lvl f (k :: ds) s low))) (hp : l.Pairwise (· ≤ ·)) :
    ∃ r, over k l = (s : Int) :: r := by
  have up : ∀ q ∈ sh f (bump (k :: ds)) s, s ≤ q.2 := fun q hq => (sh_mem _ _ _ q hq).2.2
  -- what is over is not less than the level's size
  have ge : ∀ y ∈ over k l, (s : Int) ≤ y := fun y hy => by
    obtain ⟨h1, h2⟩ := List.mem_filter.mp hy
    rw [decide_eq_true_eq, cI_perm h] at h2
    by_cases c : (s : Int) ≤ y
    · exact c
    · exfalso
      have e1 : cI y (szN (lvl f (k :: ds) s low)) = cI y (szN low) := by
        unfold lvl
        rw [sz_app, cI_app, cI_zero (a := szN (sh f (bump (k :: ds)) s)), Nat.zero_add]
        intro z hz e
        obtain ⟨q, hq, rfl⟩ := List.mem_map.mp hz
        have := up q hq
        omega
      have e2 := cI_shp (f := f) (m := m) hk y
      rw [← hf, sz_app, cI_app] at e2
      omega
  have ism : (s : Int) ∈ over k l := by
    have cnt : k < cI (s : Int) (szN (lvl f (k :: ds) s low)) := by
      unfold lvl
      rw [sz_app, cI_app]
      have e1 : cI (s : Int) (szN (sh f (bump (k :: ds)) s)) = k + 1 := by
        rw [cI_sz]
        have a := count_sh (bump (k :: ds)) s f 0 hs (Nat.succ_pos _)
        rw [Nat.pow_zero, Nat.mul_one] at a
        rw [a]
        rfl
      omega
    refine List.mem_filter.mpr ⟨?_, by rw [decide_eq_true_eq, cI_perm h]; exact cnt⟩
    rw [h.mem_iff]
    refine List.mem_map.mpr ?_
    by_cases z : ∃ q ∈ lvl f (k :: ds) s low, ((q.2 : Nat) : Int) = (s : Int)
    · obtain ⟨q, a, b⟩ := z
      exact ⟨q, a, b⟩
    · exfalso
      rw [cI_zero (a := szN (lvl f (k :: ds) s low))] at cnt
      · omega
      · intro y hy e
        obtain ⟨q, hq, rfl⟩ := List.mem_map.mp hy
        exact z ⟨q, hq, e⟩
  have srt : (over k l).Pairwise (· ≤ ·) := hp.filter _
  generalize over k l = o at ge ism srt
  cases o with
  | nil => cases ism
  | cons a r =>
    refine ⟨r, ?_⟩
    have g := ge a List.mem_cons_self
    rcases List.mem_cons.mp ism with q | q
    · rw [q]
    · have := (List.pairwise_cons.mp srt).1 _ q
      rw [show a = (s : Int) by omega]
end Sv
set_option Elab.async false
set_option linter.all false
set_option maxRecDepth 100000
set_option maxHeartbeats 4000000
namespace K09
open PySem PySem.Spec PyProof.Rows L2 GxR Pu Evl Sh Sv
abbrev nLL : List Str := ["_law_spans", "_law_keep", "_law_row", "_law_found", "_law_turn", "_law_sizes", "_law_over", "_law_at", "_law_many", "_law_first", "_law_one"]
theorem scLL : FnScope nLL ["_law_spans", "_law_keep", "_law_row"] (defScope sLawLaid) := ⟨rfl, rfl, rfl, by decide +kernel, rfl, by decide +kernel, by decide +kernel⟩
/-- len(x) -/
def rLen (K : PySem.W.Frag) (ys : List V) (H : Hp) (Q : VK) : Prop := ∃ x n, ys = [x] ∧ LenV K x H n ∧ Q (.int n) H
section
variable {P : Program} {w : World} {K : PySem.W.Frag} {mg : Str → Option Value} {base : Heap} {σ : L2.St} {H H' : Hp}
/-- [many for first, many in found] -/
theorem q_sizes {q : Addr} {xs : List V} {L : List (Nat × Nat)} (len : σ.length = 11) (h3 : σ[3]? = some (some (.ref q))) (hq : H q = some (.lst xs)) (hp : PrT H L xs) (hl : L.length ≤ 2000) {Q : VK}
    (k : ∀ D H', H D = none → Ex H H' → H' D = some (.lst ((szN L).map V.int)) → Q (.ref D) H') :
    tLc (iSeq K (tVar 3)) (gTup K 2 (gCons (gName 9) (gCons (gName 8) gNil))) tYes (tVar 8) [9, 8] σ H Q := by
  have hxl : L.length = xs.length := Paired.length hp
  refine ⟨.ref q, h3, q, xs, rfl, .inr (SqL.of hq), fun J Gd wk hG D hD => ?_⟩
  have w0 : (wipe σ [9, 8]).length = 11 := by rw [wipe_length]; exact len
  refine lc_gen wk (fun m H' acc => acc = (szN (L.take m)).map V.int) (by omega) hD (fun m H xs ys acc h r => r) rfl hG ?_ ?_
  · intro m y Ha Hb acc hi ex yy hR Qy Qn hy hn
    obtain ⟨rfl, hx⟩ := yy
    obtain ⟨p, hp1, b, rfl, hb⟩ := Paired.atR hp hx
    have tk : L.take (m + 1) = L.take m ++ [p] := by rw [List.take_add_one, hp1]; rfl
    refine ⟨b, _, rfl, SqT.of (ex _ _ hb), rfl, _, _, rfl, _, _, rfl, rfl, wipe2 (by decide), yes_then ⟨_, sl_eq (by rw [List.length_set, w0]; decide), hy _ _ (Ex.refl _) ?_⟩⟩
    rw [tk, sz_app, List.map_append, hR]
    rfl
  · intro H4 acc e4 hD4 hR
    rw [← hxl, List.take_length] at hR
    exact k D H4 hD e4 (by rw [hD4, hR])
theorem cI_snoc (y z : Int) (l : List Int) : (l ++ [z]).filter (fun x => decide (x = y)) = if z = y then l.filter (fun x => decide (x = y)) ++ [z] else l.filter fun x => decide (x = y) := by
  rw [List.filter_append, List.filter_cons]
  by_cases h : z = y
  · rw [if_pos h, if_pos (by simpa using h)]; simp
  · rw [if_neg h, if_neg (by simpa using h)]; simp
abbrev tInner (K : PySem.W.Frag) : TE := tLc (iSeq K (tVar 5)) (gName 10) (tTest (tOp rEq (tVar 10) (tVar 8))) (tVar 10) [10]
/-- [many for many in sizes if len([one for one in sizes if one == many]) > keep] -/
theorem q_over {z : Addr} {l : List Int} {kp : Nat} (len : σ.length = 11) (h5 : σ[5]? = some (some (.ref z))) (h1 : σ[1]? = some (some (.int (kp : Int)))) (hz : H z = some (.lst (l.map V.int))) (hl : l.length ≤ 2000) {Q : VK}
    (k : ∀ D H', H D = none → Ex H H' → H' D = some (.lst ((over kp l).map V.int)) → Q (.ref D) H') :
    tLc (iSeq K (tVar 5)) (gName 8) (tTest (tOp (rI0 fun i j => .bl (decide (j < i))) (tCB (rLen K) (tCons (tInner K) tNil)) (tVar 1))) (tVar 8) [8] σ H Q := by
  refine ⟨.ref z, h5, z, l.map V.int, rfl, .inr (SqL.of hz), fun J Gd wk hG D hD => ?_⟩
  refine lc_gen wk (fun m H' acc => acc = ((l.take m).filter fun y => decide (kp < cI y l)).map V.int) (by rw [List.length_map]; omega) hD (fun m H xs ys acc h r => r) rfl hG ?_ ?_
  · intro m y Ha Hb acc hi ex yy hR Qy Qn hy hn
    obtain ⟨rfl, hx⟩ := yy
    rw [List.getElem?_map] at hx
    obtain ⟨v, hv, rfl⟩ := Option.map_eq_some_iff.mp hx
    have tk : l.take (m + 1) = l.take m ++ [v] := by rw [List.take_add_one, hv]; rfl
    have l8 : ∀ x : Option V, ((wipe σ [8]).set 8 x).length = 11 := fun x => by rw [List.length_set, wipe_length]; exact len
    refine ⟨wipe1, ?_⟩
    refine ⟨.ref z, wipe_ne h5 (by decide), z, l.map V.int, rfl, .inr (SqL.of (ex _ _ hz)), fun J2 Gd2 wk2 hG2 D2 hD2 => ?_⟩
    refine lc_gen wk2 (fun m H' acc => acc = ((l.take m).filter fun y => decide (y = v)).map V.int) (by rw [List.length_map]; omega) hD2 (fun m H xs ys acc h r => r) rfl hG2 ?_ ?_
    · intro m2 y Hc Hd acc2 hi2 ex2 yy hR2 Qy2 Qn2 hy2 hn2
      obtain ⟨rfl, hx⟩ := yy
      rw [List.getElem?_map] at hx
      obtain ⟨u, hu, rfl⟩ := Option.map_eq_some_iff.mp hx
      have tk2 : l.take (m2 + 1) = l.take m2 ++ [u] := by rw [List.take_add_one, hu]; rfl
      refine ⟨wipe1, _, wipe_at (by rw [l8]; decide), _, wipe_ne (wipe_at (by rw [len]; decide)) (by decide), rfl, _, rfl, ite2 (fun c => ?_) fun c => ?_⟩
      · have c' : u = v := V.int.inj (of_decide_eq_true c)
        refine ⟨_, wipe_at (by rw [l8]; decide), hy2 _ _ (Ex.refl _) ?_⟩
        rw [tk2, cI_snoc, if_pos c', List.map_append, hR2]
        rfl
      · have c' : ¬ u = v := fun e => c (decide_eq_true (by rw [e]))
        refine hn2 _ (Ex.refl _) ?_
        rw [tk2, cI_snoc, if_neg c', hR2]
    · intro H4 acc2 e4 hD4 hR2
      rw [List.length_map, List.take_length] at hR2
      have hcn : acc2.length = cI v l := by rw [hR2, List.length_map]; rfl
      refine ⟨.ref D2, acc2.length, rfl, .inl ⟨acc2, SqL.of hD4, rfl⟩, _, wipe_ne h1 (by decide), _, _, rfl, rfl, _, rfl, ite2 (fun c => ?_) fun c => ?_⟩
      · have c' : kp < cI v l := by have := of_decide_eq_true c; rw [hcn] at this; omega
        refine ⟨_, wipe_at (by rw [len]; decide), hy _ _ e4 ?_⟩
        rw [tk, List.filter_append, List.filter_cons, if_pos (decide_eq_true c'), List.map_append, hR]
        rfl
      · have c' : ¬ kp < cI v l := fun e => c (decide_eq_true (by rw [hcn]; omega))
        refine hn _ e4 ?_
        rw [tk, List.filter_append, List.filter_cons, if_neg (by rw [decide_eq_true_eq]; exact c'), List.filter_nil, List.append_nil, hR]
  · intro H4 acc e4 hD4 hR
    rw [List.length_map, List.take_length] at hR
    exact k D H4 hD e4 (by rw [hD4, hR]; rfl)
end
end K09
set_option Elab.async false
set_option linter.all false
set_option maxRecDepth 100000
set_option maxHeartbeats 4000000
namespace Pu
open PySem PySem.Spec PyProof.Rows L2 GxR
def dIntL (l : List Int) : PyData := .list (l.map PyData.int)
theorem dpIntL {K : PySem.W.Frag} {H : Hp} {q : Addr} {l : List Int} (h : SqL K H q (l.map V.int)) : Dp K H (.ref q) (dIntL l) := by
  refine .lst h ?_
  clear h
  induction l with
  | nil => exact .nil
  | cons x l ih => exact .cons (.int _) ih
theorem intL_shaped (l : List Int) : SeqAt.shaped (dIntL l) = true := by
  have h1 : ∀ l : List Int, PyData.canLayAll0 (l.map PyData.int) = true := fun l => by
    induction l with
    | nil => rfl
    | cons x l ih =>
      show (PyData.canLay0 (.int x) && PyData.canLayAll0 (l.map PyData.int)) = true
      rw [ih]
      rfl
  have h2 : ∀ l : List Int, PyData.depthAll (l.map PyData.int) = 0 := fun l => by
    induction l with
    | nil => rfl
    | cons x l ih =>
      show max 0 (PyData.depthAll (l.map PyData.int)) = 0
      rw [ih]
      rfl
  unfold SeqAt.shaped
  have h3 : PyData.canLay0 (dIntL l) = true := h1 l
  have h4 : PyData.depth (dIntL l) ≤ 64 := by
    show PyData.depthAll (l.map PyData.int) + 1 ≤ 64
    rw [h2]
    decide
  rw [h3, decide_eq_true h4]
  rfl
theorem intL_nil (l : List Int) : PyData.eqv (dIntL l) (.list []) = l.isEmpty := by cases l <;> rfl
end Pu
namespace K09
open PySem PySem.Spec PyProof.Rows L2 GxR Pu Evl Sh Sv
def spLL : Sp := fun vs H Q _ => ∃ (k f l : Nat) (q : Addr) (xs : List V), vs = [.ref q, .int (k : Int), .int (l : Int)] ∧ 2 ≤ k ∧ k ≤ 8 ∧ f ≤ l ∧ l ≤ 900 ∧ H q = some (.lst xs) ∧ PrT H (shp k f l) xs ∧
  ∀ q' ys H', H q' = none → Ex H H' → H' q' = some (.lst ys) → PrT H' (shp k f (l + 1)) ys → Q (.ref q') H'
theorem sh_len_ge : ∀ (cs : List Nat) (f s : Nat), (∀ c ∈ cs, 1 ≤ c) → cs.length ≤ (sh f cs s).length
  | [], _, _, _ => Nat.zero_le _
  | c :: cs, f, s, h => by
    have ih := sh_len_ge cs f (2 * s) fun d hd => h d (List.mem_cons_of_mem _ hd)
    have h1 := h c List.mem_cons_self
    show cs.length + 1 ≤ (sh f cs (2 * s) ++ (List.range c).map _).length
    rw [List.length_append, List.length_map, List.length_range]
    omega
theorem next_of {D : Ends} {σ : L2.St} {H : Hp} (h : D.nx σ H) : tNext D σ H := h
theorem cut_take {xs : List V} {a : Nat} (h : a ≤ xs.length) : cutV xs none (some (a : Int)) = xs.take a := by
  unfold cutV
  rw [HT.sIx_none, HT.sIx_nat, List.drop_zero, Nat.sub_zero, Nat.min_eq_left h]
theorem cut_drop {xs : List V} {a : Nat} (h : a ≤ xs.length) : cutV xs (some (a : Int)) none = xs.drop a := by
  unfold cutV
  rw [HT.sIx_none, HT.sIx_nat, Nat.min_eq_left h, List.take_of_length_le (by rw [List.length_drop]; omega)]
section
variable {P : Program} {w : World} {K : PySem.W.Frag} {mg : Str → Option Value} {base : Heap} {σ : L2.St} {H H' : Hp}
theorem ok_law_laid {f : Addr} {fd : FuncData} (G : Mg mg) (hsort : mg "sorted" = none) (F : Fun K "_law_laid" "_law_laid" sLawLaid f fd) : FnOk P w K mg base CX0 1 f fd ["_law_spans", "_law_keep", "_law_row"] spLL := by
  refine F.ok scLL (fun vs H Q E h => ?_) (fun cdv A outer s H vs Q E hr h => ?_)
  · obtain ⟨k, f0, l, q, xs, rfl, _⟩ := h
    rfl
  · obtain ⟨k, f0, l, q, xs, rfl, k2, k8, hfl, hl, hq, hp, kk⟩ := h
    have hu : A.units + 3 + 64 < cLine := hr.units
    refine ⟨_, pss_cons (ps_set (i := 3) scLL.nd rfl (.inl rfl) (pe_op op_cat (pv 0) (pe_lst (pa_cons (pe_tup (pa_cons (pv 2) (pa_cons pe_int pa_nil))) pa_nil))))
      (pss_cons (ps_for PassesOwn.never rfl (pi_range1 (by rfl) G.range (pa_cons (pe_callB call_len_seq (by rfl) G.len PySem.boot_len (pa_cons (pv 3) pa_nil)) pa_nil)) (pg_name (i := 4) scLL.nd rfl (.inl rfl))
        (pss_cons (ps_set (i := 5) scLL.nd rfl (.inr rfl) (pe_callB cr_sortedI (by rfl) hsort (by decide +kernel) (pa_cons (pe_lc (own := [("_law_first", 9), ("_law_many", 8)]) (g := gTup K 2 (gCons (gName 9) (gCons (gName 8) gNil))) (te := tVar 8) (by rfl) scLL.nd (pi_seq (pv 3))
            (blkOk_by (own := [("_law_first", 9), ("_law_many", 8)]) (N := nLL) (sc := defScope sLawLaid) (by decide +kernel)) (fun _ _ _ _ _ => pg_tup rfl (pgs_cons (pg_name (i := 9) scLL.nd rfl (.inl rfl)) (pgs_cons (pg_name (i := 8) scLL.nd rfl (.inl rfl)) pgs_nil))) (fun _ _ _ _ _ => pts_nil) (fun _ _ _ _ _ => pv 8)) pa_nil)))
        (pss_cons (ps_setLc (i := 6) (own := [("_law_many", 8)]) (g := gName 8) (te := tVar 8) (tt := tTest (tOp (rI0 fun i j => .bl (decide (j < i))) (tCB (rLen K) (tCons (tInner K) tNil)) (tVar 1))) (by rfl) scLL.nd rfl rfl (sw_true rfl rfl rfl (by decide +kernel)) (pi_seq (pv 5))
            (blkOk_by (own := [("_law_many", 8)]) (N := nLL) (sc := defScope sLawLaid) (by decide +kernel)) (fun _ _ _ _ _ => pg_name (i := 8) scLL.nd rfl (.inr rfl))
            (fun _ _ _ _ _ => pts_one (pt_cmpR op_gt (pe_callB call_len (by rfl) G.len boot_len (pa_cons (pe_lc (own := [("_law_one", 10)]) (te := tVar 10) (tt := tTest (tOp rEq (tVar 10) (tVar 8))) (by rfl) scLL.nd (pi_seq (pv 5))
                (blkOk_by (own := [("_law_one", 10)]) (N := nLL) (sc := { kind := .function, names := [(".0", .local), ("_law_many", .cell), ("len", .globalImplicit), ("_law_keep", .cell), ("_law_sizes", .cell)], isGenerator := false, isCoroutine := false }) (by decide +kernel))
                (fun _ _ _ _ _ => pg_name (i := 10) scLL.nd rfl (.inl rfl)) (fun _ _ _ _ _ => pts_one (pt_cmpR op_eq (pv 10) (pv 8) (nomark _))) (fun _ _ _ _ _ => pv 10)) pa_nil)) (pv 1) (nomark _)))
            (fun _ _ _ _ _ => pv 8))
        (pss_cons (ps_if (pt_cmpR (op_eqD hu) (pv 6) (pe_lst pa_nil) (nomark _)) (pss_one (ps_ret (pv 3))) pss_nil)
        (pss_cons (ps_set (i := 7) scLL.nd rfl (.inl rfl) (pe_bm PySem.F.plainAttrs_list PySem.F.slot_list_index PySem.F.type_list_index mt_index (pe_lc (own := [("_law_first", 9), ("_law_many", 8)]) (g := gTup K 2 (gCons (gName 9) (gCons (gName 8) gNil))) (te := tVar 8) (by rfl) scLL.nd (pi_seq (pv 3))
            (blkOk_by (own := [("_law_first", 9), ("_law_many", 8)]) (N := nLL) (sc := defScope sLawLaid) (by decide +kernel)) (fun _ _ _ _ _ => pg_tup rfl (pgs_cons (pg_name (i := 9) scLL.nd rfl (.inl rfl)) (pgs_cons (pg_name (i := 8) scLL.nd rfl (.inl rfl)) pgs_nil))) (fun _ _ _ _ _ => pts_nil) (fun _ _ _ _ _ => pv 8))
            (pa_cons (pe_ix ix_seq (pv 6) pe_int (fun _ _ => rfl)) pa_nil)))
        (pss_one (ps_set (i := 3) scLL.nd rfl (.inl rfl) (pe_op op_cat (pe_op op_cat (pe_slice sl_list (pv 3) po_none (po_some (pv 7)))
            (pe_lst (pa_cons (pe_tup (pa_cons (pe_ix ix_seq (pe_ix ix_seq (pv 3) (pv 7) (fun _ _ => rfl)) pe_int (fun _ _ => rfl)) (pa_cons (pe_op op_add (pe_ix ix_seq (pe_ix ix_seq (pv 3) (pv 7) (fun _ _ => rfl)) pe_int (fun _ _ => rfl)) (pe_ix ix_seq (pe_ix ix_seq (pv 3) (pe_op op_add (pv 7) pe_int) (fun _ _ => rfl)) pe_int (fun _ _ => rfl))) pa_nil))) pa_nil)))
            (pe_slice sl_list (pv 3) (po_some (pe_op op_add (pv 7) pe_int)) po_none)))))))))
      (pss_one (ps_ret (pv 3)))), ?_⟩
    have hxl : (shp k f0 l).length = xs.length := Paired.length hp
    have hsl : (shp k f0 l).length ≤ l - f0 := shp_len k2
    obtain ⟨m, hm⟩ : ∃ m, m = l - f0 := ⟨_, rfl⟩
    have hm1 : l + 1 - f0 = m + 1 := by omega
    have hshp : shp k f0 l = sh f0 (counts k m) 1 := by rw [hm]; rfl
    have hfin1 : shp k f0 (l + 1) = sh f0 (counts k (m + 1)) 1 := by unfold shp; rw [hm1]
    have hk : ∀ c ∈ counts k m, 1 ≤ c ∧ c ≤ k := fun c hc => by
      by_cases z : 0 < m
      · exact val_all k2 (counts_val k2 m z) c hc
      · rw [show m = 0 by omega, counts_zero] at hc; cases hc
    have hcl : (counts k m).length ≤ xs.length := by
      rw [← hxl, hshp]
      exact sh_len_ge _ _ _ fun c hc => (hk c hc).1
    -- found = spans + [(row, 1)]
    refine ⟨_, rfl, _, rfl, by show 2 ≤ sizeLine; decide, fun t ht => ⟨by show 1 ≤ sizeLine; decide, fun b hb => ?_⟩⟩
    have e1 := Ex.new ht (o := .tup [V.int (l : Int), .int 1])
    have e2 := Ex.new hb (o := .lst [V.ref t])
    have e12 := e1.trans e2
    refine ⟨q, b, xs, [.ref t], rfl, rfl, e12 _ _ hq, upd_same, Nat.le_trans (show xs.length + 1 ≤ 1000 by omega) (by decide), fun q1 hq1 => ?_⟩
    have e3 := Ex.new hq1 (o := .lst (xs ++ [V.ref t]))
    have e13 := e12.trans e3
    have hp1 : PrT (upd (upd (upd H t (.tup [V.int (l : Int), .int 1])) b (.lst [V.ref t])) q1 (.lst (xs ++ [V.ref t]))) (lvl f0 (counts k m) 1 []) (xs ++ [.ref t]) := by
      have : lvl f0 (counts k m) 1 [] = shp k f0 l ++ [(l, 1)] := by
        unfold lvl
        rw [sh_bump, List.append_nil, hshp, counts_tot k2, show f0 + m = l by omega]
      rw [this]
      exact (hp.ex e13).snoc ((e2.trans e3) _ _ upd_same)
    refine ⟨.ref q1, rfl, q1, _, rfl, .inl (SqL.of upd_same), ((xs ++ [V.ref t]).length : Int), rfl, ?_, ?_, for_range (lo := 0) (n := (xs ++ [V.ref t]).length) (fun j σ' H' => ∃ (q' : Addr) (ys : List V) (ds : List Nat) (low : List (Nat × Nat)) (i : Nat) (y4 y5 y6 y7 : Option V),
        σ' = [some (.ref q), some (.int (k : Int)), some (.int (l : Int)), some (.ref q'), y4, y5, y6, y7, none, none, none] ∧ Ex H H' ∧ H q' = none ∧ H' q' = some (.lst ys) ∧ PrT H' (lvl f0 ds (2 ^ i) low) ys ∧ (∀ p ∈ low, p.2 < 2 ^ i) ∧ (∀ d ∈ ds, 1 ≤ d ∧ d ≤ k) ∧
        f0 + Sh.tot ds (2 ^ i) + 2 ^ i + low.length ≤ l + 1 ∧ sh f0 (inc k ds) (2 ^ i) ++ low = sh f0 (counts k (m + 1)) 1 ∧ j + ds.length ≤ (counts k m).length)
      ⟨q1, _, counts k m, [], 0, none, none, none, none, rfl, e13, fresh_back e12 hq1, upd_same, hp1, (fun _ h => nomatch h), hk, ?_, ?_, by omega⟩ (fun j σ' H' hj p1 => ?_) fun σ' H' p1 => ?_⟩
    · rw [List.length_append, List.length_singleton]; omega
    · rw [List.length_append, List.length_singleton]; omega
    · rw [counts_tot k2]; simp; omega
    · rw [List.append_nil, inc_counts k2]
    · obtain ⟨q', ys, ds, low, i, y4, y5, y6, y7, rfl, ex, hq0, hq', hp', hlow, hds, hb, hfin, hj2⟩ := p1
      have p2 : 0 < 2 ^ i := Nat.two_pow_pos i
      have hll : (lvl f0 ds (2 ^ i) low).length ≤ 2000 := by
        unfold lvl
        have a := sh_len (bump ds) (2 ^ i) f0 p2
        rw [tot_bump] at a
        rw [List.length_append]
        omega
      refine asg_of (one_col (q_sizes rfl rfl hq' hp' hll fun D1 H1 hD1 e1 h1 => ⟨D1, szN (lvl f0 ds (2 ^ i) low), rfl, SqL.of h1, fun ns p3 perm rising hp3 => gName_of ?_⟩))
      dsimp only
      have e4 := Ex.new hp3 (o := .lst (ns.map V.int))
      have hnl : ns.length ≤ 2000 := by rw [perm.length_eq]; unfold szN; rw [List.length_map]; exact hll
      refine asg_of (q_over (z := p3) (l := ns) (kp := k) rfl rfl rfl upd_same hnl fun D2 H2 hD2 e5 h2 => gName_of ?_)
      refine ⟨_, rfl, by show 0 ≤ sizeLine; decide, fun q2 hq2 => ?_⟩
      have e6 := Ex.new hq2 (o := .lst [])
      have e16 := e1.trans (e4.trans (e5.trans e6))
      have hqq := e16 _ _ hq'
      have hpp := hp'.ex e16
      have h26 := e6 _ _ h2
      refine ⟨dIntL (over k ns), .list [], dpIntL (SqL.of h26), .lst (SqL.of upd_same) .nil, intL_shaped _, rfl, _, rfl, ite2 (fun c => ?_) fun c => ?_⟩
      · rw [intL_nil] at c
        have hend : lvl f0 ds (2 ^ i) low = sh f0 (counts k (m + 1)) 1 := by
          rw [← hfin]
          cases ds with
          | nil => rfl
          | cons c0 ds =>
            by_cases ck : c0 < k
            · exact lvl_end ck
            · exfalso
              have c1 := hds c0 List.mem_cons_self
              have e0 : c0 = k := by omega
              subst e0
              obtain ⟨r, hr⟩ := over_head k2 p2 hlow hfin perm rising
              rw [hr] at c
              cases c
        rw [hend, ← hfin1] at hpp
        exact ⟨.ref q', rfl, kk q' ys _ hq0 (ex.trans e16) hqq hpp⟩
      · rw [intL_nil] at c
        cases ds with
        | nil =>
          exfalso
          apply c
          rw [over_nil (f := f0) (m := m + 1) k2 (by rw [← hfin]; exact perm)]
          rfl
        | cons c0 ds =>
          have c1 := hds c0 List.mem_cons_self
          have ck : c0 = k := by
            by_cases z : c0 < k
            · exfalso
              apply c
              rw [lvl_end z, hfin] at perm
              rw [over_nil (f := f0) (m := m + 1) k2 perm]
              rfl
            · omega
          subst ck
          obtain ⟨r, hr⟩ := over_head k2 p2 hlow hfin perm rising
          obtain ⟨r2, hl1, hl2⟩ := lvl_step (f := f0) (s := 2 ^ i) (ds := ds) (low := low) c1.1
          have h2i : 2 * 2 ^ i = 2 ^ (i + 1) := by rw [Nat.pow_succ]; omega
          have gtA : ∀ p ∈ sh f0 ds (2 * 2 ^ i), 2 * 2 ^ i ≤ p.2 := fun p hp => (sh_mem _ _ _ p hp).2.2
          rw [h2i] at hl1 hl2 gtA
          have t0 : Sh.tot (c0 :: ds) (2 ^ i) = Sh.tot ds (2 ^ (i + 1)) + 2 ^ i * c0 := by
            rw [← h2i]
            rfl
          rw [t0] at hb
          rw [hl1] at hpp hll
          generalize hA : sh f0 ds (2 ^ (i + 1)) = A at *
          generalize hB : f0 + Sh.tot ds (2 ^ (i + 1)) = B at *
          have hys : (A ++ (B, 2 ^ i) :: (B + 2 ^ i, 2 ^ i) :: r2).length = ys.length := Paired.length hpp
          rw [List.length_append, List.length_cons, List.length_cons] at hys hll
          have g1 : (A ++ (B, 2 ^ i) :: (B + 2 ^ i, 2 ^ i) :: r2)[A.length]? = some (B, 2 ^ i) := by
            rw [List.getElem?_append_right (Nat.le_refl _), Nat.sub_self]; rfl
          have g2 : (A ++ (B, 2 ^ i) :: (B + 2 ^ i, 2 ^ i) :: r2)[A.length + 1]? = some (B + 2 ^ i, 2 ^ i) := by
            rw [List.getElem?_append_right (Nat.le_succ _), show A.length + 1 - A.length = 1 by omega]; rfl
          obtain ⟨y1, hy1, b1, rfl, s1⟩ := Paired.atL hpp g1
          obtain ⟨y2, hy2, b2, rfl, s2⟩ := Paired.atL hpp g2
          have hp3' := hp'.ex e16
          refine next_of ?_
          dsimp only
          refine asg_of (q_sizes (L := lvl f0 (c0 :: ds) (2 ^ i) low) rfl rfl hqq hp3' (by rw [hl1, List.length_append, List.length_cons, List.length_cons]; omega) fun D3 H3 hD3 e7 h3 => ⟨.inl ⟨rfl, _, SqL.of h3⟩, ?_⟩)
          rw [hl1] at h3
          refine ⟨.ref D2, rfl, .inl ⟨D2, _, _, V.int ((2 ^ i : Nat) : Int), rfl, rfl, SqL.of (e7 _ _ h26), atI_nat (j := 0) (by rw [hr]; rfl), ?_⟩⟩
          have i1 : ((szN (A ++ (B, 2 ^ i) :: (B + 2 ^ i, 2 ^ i) :: r2)).map V.int)[A.length]? = some (V.int ((2 ^ i : Nat) : Int)) := by
            unfold szN
            rw [List.getElem?_map, List.getElem?_map, g1]
            rfl
          refine ⟨D3, _, _, A.length, _, rfl, rfl, SqL.of h3, rfl, ?_, i1, ?_, ?_, gName_of ?_⟩
          · rw [List.all_map]
            exact List.all_eq_true.mpr fun _ _ => rfl
          · show ((((2 ^ i : Nat) : Int)) == ((2 ^ i : Nat) : Int)) = true
            exact beq_self_eq_true _
          · intro m2 z' hm2 hz'
            unfold szN at hz'
            rw [List.getElem?_map, List.getElem?_map, List.getElem?_append_left hm2, List.getElem?_eq_getElem hm2] at hz'
            cases hz'
            have := gtA _ (List.getElem_mem hm2)
            have p21 : 2 ^ (i + 1) = 2 ^ i + 2 ^ i := by rw [Nat.pow_succ]; omega
            show (((A[m2].2 : Nat) : Int) == ((2 ^ i : Nat) : Int)) = false
            rw [beq_eq_false_iff_ne]
            omega
          have hq3 := e7 _ _ hqq
          have a1 : A.length + 2 ≤ ys.length := by omega
          have hyl : ys.length ≤ 2000 := by omega
          have szl : ∀ n : Nat, n ≤ 5000 → n ≤ sizeLine := fun n h => Nat.le_trans h (by decide)
          refine ⟨.ref q', rfl, .int (A.length : Nat), rfl, _, rfl, q', ys, rfl, SqL.of hq3, fun p4 hp4 => ?_⟩
          rw [cut_take (by omega : A.length ≤ ys.length)]
          have e8 := Ex.new hp4 (o := .lst (ys.take A.length))
          have e78 := e7.trans e8
          have hq8 := SqL.of (K := K) (e8 _ _ hq3)
          refine ⟨.ref q', rfl, .int (A.length : Nat), rfl, .inl ⟨q', ys, _, .ref b1, rfl, rfl, hq8, atI_nat hy1, .inr (.inl ⟨b1, _, _, _, rfl, rfl, SqT.of (e78 _ _ s1), atI_nat (j := 0) rfl, ?_⟩)⟩⟩
          refine ⟨.ref q', rfl, .int (A.length : Nat), rfl, .inl ⟨q', ys, _, .ref b1, rfl, rfl, hq8, atI_nat hy1, .inr (.inl ⟨b1, _, _, _, rfl, rfl, SqT.of (e78 _ _ s1), atI_nat (j := 1) rfl, ?_⟩)⟩⟩
          refine ⟨.ref q', rfl, .int (A.length : Nat), rfl, _, _, rfl, rfl, .inl ⟨q', ys, _, .ref b2, rfl, rfl, hq8, atI_nat (j := A.length + 1) hy2, .inr (.inl ⟨b2, _, _, _, rfl, rfl, SqT.of (e78 _ _ s2), atI_nat (j := 1) rfl, ?_⟩)⟩⟩
          refine ⟨_, _, rfl, rfl, by show 2 ≤ sizeLine; decide, fun t5 ht5 => ⟨by show 1 ≤ sizeLine; decide, fun b5 hb5 => ?_⟩⟩
          have e9 := Ex.new ht5 (o := .tup [V.int (B : Nat), .int (((2 ^ i : Nat) : Int) + ((2 ^ i : Nat) : Int))])
          have e10 := Ex.new hb5 (o := .lst [V.ref t5])
          have e910 := e9.trans e10
          refine ⟨p4, b5, _, _, rfl, rfl, e910 _ _ upd_same, upd_same, szl _ (by show (ys.take A.length).length + 1 ≤ 5000; rw [List.length_take]; omega), fun p6 hp6 => ?_⟩
          have e11 := Ex.new hp6 (o := .lst (ys.take A.length ++ [V.ref t5]))
          have e8_11 := e8.trans (e910.trans e11)
          refine ⟨.ref q', rfl, .int (A.length : Nat), rfl, _, _, rfl, rfl, _, rfl, q', ys, rfl, SqL.of (e8_11 _ _ hq3), fun p7 hp7 => ?_⟩
          have cd : cutV ys (some ((A.length : Int) + 2)) none = ys.drop (A.length + 2) := cut_drop a1
          rw [cd]
          have e14 := Ex.new hp7 (o := .lst (ys.drop (A.length + 2)))
          refine ⟨p6, p7, _, _, rfl, rfl, e14 _ _ upd_same, upd_same, szl _ (by rw [List.length_append, List.length_take, List.length_drop, List.length_singleton]; omega), fun p8 hp8 => ?_⟩
          have e15 := Ex.new hp8 (o := .lst (ys.take A.length ++ [V.ref t5] ++ ys.drop (A.length + 2)))
          have eAll := e16.trans (e7.trans (e8_11.trans (e14.trans e15)))
          have eT := e11.trans (e14.trans e15)
          have hll' : (lows f0 (c0 - 1) (2 ^ i) (Sh.tot ds (2 ^ (i + 1)) + 2 ^ (i + 1)) low).length = c0 - 1 + low.length := by
            unfold lows
            rw [List.length_append, List.length_map, List.length_range]
          have hlow' := lows_lt (f := f0) (c := c0 - 1) (s := 2 ^ i) (t := Sh.tot ds (2 ^ (i + 1)) + 2 ^ (i + 1)) p2 hlow
          have p21 : 2 ^ (i + 1) = 2 ^ i + 2 ^ i := by rw [Nat.pow_succ]; omega
          have mcc : 2 ^ i + (c0 - 1) ≤ 2 ^ i * c0 := by
            obtain ⟨d, rfl⟩ : ∃ d, c0 = d + 1 := ⟨c0 - 1, by omega⟩
            have : d ≤ 2 ^ i * d := by have := Nat.mul_le_mul_right d p2; omega
            rw [Nat.mul_add, Nat.mul_one]
            omega
          refine ⟨p8, _, ds, lows f0 (c0 - 1) (2 ^ i) (Sh.tot ds (2 ^ (i + 1)) + 2 ^ (i + 1)) low, i + 1, _, _, _, _, rfl, ex.trans eAll, ?_, upd_same, ?_, ?_, fun d hd => hds d (List.mem_cons_of_mem _ hd), by omega, ?_, ?_⟩
          · exact fresh_back (ex.trans (e16.trans (e7.trans (e8_11.trans e14)))) hp8
          · have hpF := hpp.ex (e7.trans (e8_11.trans (e14.trans e15)))
            rw [hl2]
            have x1 := Paired.takeP hpF A.length
            have x2 := Paired.dropP hpF (A.length + 2)
            rw [List.take_left] at x1
            rw [List.drop_append, show A.length + 2 - A.length = 2 by omega, List.drop_of_length_le (by omega : A.length ≤ A.length + 2), List.nil_append] at x2
            show PrT _ (A ++ ([(B, 2 ^ (i + 1))] ++ r2)) _
            rw [← List.append_assoc]
            refine Paired.app (Paired.app x1 (.cons ⟨t5, rfl, ((e10.trans eT) t5 _ upd_same).trans ?_⟩ .nil)) x2
            show some (HO.tup [V.int (B : Nat), V.int (((2 ^ i : Nat) : Int) + ((2 ^ i : Nat) : Int))]) = some (HO.tup [V.int (B : Nat), V.int ((2 ^ (i + 1) : Nat) : Int)])
            rw [p21, Int.natCast_add]
          · rw [h2i] at hlow'; exact hlow'
          · rw [← hfin, lvl_fin (by omega) fun d hd => (hds d (List.mem_cons_of_mem _ hd)).1, h2i]
          · rw [List.length_cons] at hj2; omega
    · obtain ⟨q', ys, ds, low, i, y4, y5, y6, y7, rfl, ex, hq0, hq', hp', hlow, hds, hb, hfin, hj2⟩ := p1
      exfalso
      rw [List.length_append, List.length_singleton] at hj2
      omega
end
end K09
set_option Elab.async false
set_option linter.all false
set_option maxRecDepth 100000
set_option maxHeartbeats 4000000
namespace K09
open PySem PySem.Spec PyProof.Rows L2 GxR Pu Evl Sh Sv
abbrev nLS : List Str := ["_law_laid_here", "_law_last", "_law_spans", "_law_values", "_law_told", "_law_first", "_law_many", "_law_some"]
theorem scLS : FnScope nLS ["_law_laid_here", "_law_last", "_law_spans", "_law_values"] (defScope sLawStore) := ⟨rfl, rfl, rfl, by decide +kernel, rfl, by decide +kernel, by decide +kernel⟩
abbrev nLH : List Str := ["_law_store_here", "_law_span"]
theorem scLH : FnScope nLH ["_law_store_here"] (defScope sLawHanded) := ⟨rfl, rfl, rfl, by decide +kernel, rfl, by decide +kernel, by decide +kernel⟩
def spLS : Sp := fun vs H Q _ => ∃ (l : Nat) (la : Option Nat) (q z : Addr) (xs : List V) (L : List (Nat × Nat)) (v : List Int), vs = [.int (l : Int), nonV la, .ref q, .ref z] ∧ H q = some (.lst xs) ∧ PrT H L xs ∧ L.length ≤ 2000 ∧ H z = some (.lst (v.map V.int)) ∧ (∀ p ∈ L, p.1 + p.2 ≤ v.length ∧ 1 ≤ p.2) ∧
  ∀ u H', Ex H H' → StT H' l la (L.map (spn v)) u → Q u H'
def spLH : Sp := fun vs H Q _ => ∃ (l : Nat) (la : Option Nat) (L : List S5) (v : V), vs = [v] ∧ StT H l la L v ∧ L.length ≤ 2000 ∧ ∀ u H', Ex H H' → StH H' l la L u → Q u H'
theorem cut_mid {v : List Int} {a n : Nat} (h : a + n ≤ v.length) : cutV (v.map V.int) (some (a : Int)) (some ((a : Int) + n)) = (sl v (a, n)).map V.int := by
  unfold cutV sl
  have e : (a : Int) + n = ((a + n : Nat) : Int) := by omega
  rw [e, HT.sIx_nat, HT.sIx_nat, List.length_map, Nat.min_eq_left (by omega : a ≤ v.length), Nat.min_eq_left h, ← List.map_drop, ← List.map_take, show a + n - a = n by omega]
section
variable {P : Program} {w : World} {K : PySem.W.Frag} {mg : Str → Option Value} {base : Heap} {σ : L2.St} {H H' : Hp}
theorem ok_law_store {f : Addr} {fd : FuncData} (G : Mg mg) (hsum : mg "sum" = none) (F : Fun K "_law_store" "_law_store" sLawStore f fd) : FnOk P w K mg base CX0 1 f fd ["_law_laid_here", "_law_last", "_law_spans", "_law_values"] spLS := by
  refine F.ok scLS (fun vs H Q E h => ?_) (fun cdv A outer s H vs Q E hr h => ?_)
  · obtain ⟨l, la, q, z, xs, L, v, rfl, _⟩ := h
    rfl
  · obtain ⟨l, la, q, z, xs, L, v, rfl, hq, hp, hl, hz, hb, kk⟩ := h
    refine ⟨_, pss_cons (ps_set (i := 4) scLS.nd rfl (.inl rfl) (pe_lst pa_nil))
      (pss_cons (ps_for PassesOwn.never rfl (pi_list (pv 2)) (pg_seq rfl (pgs_cons (pg_name (i := 5) scLS.nd rfl (.inl rfl)) (pgs_cons (pg_name (i := 6) scLS.nd rfl (.inl rfl)) pgs_nil)))
          (pss_cons (ps_set (i := 7) scLS.nd rfl (.inl rfl) (pe_slice sl_list (pv 3) (po_some (pv 5)) (po_some (pe_op op_add (pv 5) (pv 6)))))
          (pss_one (ps_expr (pe_bm PySem.F.plainAttrs_list PySem.F.slot_list_append PySem.F.type_list_append mt_append (pv 4) (pa_cons (pe_tup (pa_cons (pv 5) (pa_cons (pv 6) (pa_cons (pe_callB (cr_sum rfl) (by rfl) hsum boot_sum (pa_cons (pv 7) pa_nil)) (pa_cons (pe_callB (cr_min rfl) (by rfl) G.min boot_min (pa_cons (pv 7) pa_nil)) (pa_cons (pe_callB (cr_max rfl) (by rfl) G.max boot_max (pa_cons (pv 7) pa_nil)) pa_nil)))))) pa_nil))))))
      (pss_one (ps_ret (pe_tup (pa_cons (pv 0) (pa_cons (pv 1) (pa_cons (pe_callTy (T := "tuple") call_tuple_of (by rfl) G.tuple (by decide +kernel) (pa_cons (pv 4) pa_nil)) pa_nil))))))), ?_⟩
    have hxl : L.length = xs.length := Paired.length hp
    refine ⟨by show 0 ≤ sizeLine; decide, fun p hpn => ?_⟩
    have e1 := Ex.new hpn (o := .lst [])
    refine ⟨.ref q, rfl, q, rfl, ⟨xs, SqL.of (e1 _ _ hq)⟩, for_it (walk_list (K := K) (a := q) (xs := xs)) (fun i σ' H' => ∃ y5 y6 y7 acc, σ' = [some (.int (l : Int)), some (nonV la), some (.ref q), some (.ref z), some (.ref p), y5, y6, y7] ∧ Ex H H' ∧ H' q = some (.lst xs) ∧ H' p = some (.lst acc) ∧ Paired (SpT H') ((L.take i).map (spn v)) acc)
      ⟨none, none, none, [], rfl, e1, e1 _ _ hq, upd_same, .nil⟩ (fun i σ' H' _ h => ?_) ?_ ?_⟩
    · obtain ⟨_, _, _, _, _, ex, hqq, _⟩ := h
      exact SqL.of hqq
    · intro i x σ' Ha Hb hi hPv hy
      obtain ⟨y5, y6, y7, acc, rfl, ex, hqq, hpa, hac⟩ := hPv
      obtain ⟨rfl, hx⟩ := hy
      obtain ⟨pr, hpr, b, rfl, hbt⟩ := Paired.atR hp hx
      obtain ⟨b1, b2⟩ := hb pr (List.mem_of_getElem? hpr)
      have tk : L.take (i + 1) = L.take i ++ [pr] := by rw [List.take_add_one, hpr]; rfl
      refine ⟨b, _, rfl, .inl (SqT.of (ex _ _ hbt)), rfl, _, _, rfl, _, _, rfl, rfl, ?_⟩
      refine ⟨.ref z, rfl, _, rfl, _, rfl, _, rfl, _, rfl, _, _, rfl, rfl, _, rfl, z, _, rfl, SqL.of (ex _ _ hz), fun c hc => ?_⟩
      rw [cut_mid b1]
      have e2 := Ex.new hc (o := .lst ((sl v (pr.1, pr.2)).map V.int))
      have hcs : (upd Hb c (.lst ((sl v (pr.1, pr.2)).map V.int))) c = some (.lst ((sl v (pr.1, pr.2)).map V.int)) := upd_same
      have slp : 0 < (sl v (pr.1, pr.2)).length := by rw [sl_len (p := (pr.1, pr.2)) b1]; exact b2
      refine ⟨.ref p, rfl, .inl ⟨rfl, _, SqL.of (e2 _ _ hpa)⟩, ?_⟩
      refine ⟨_, rfl, _, rfl, .ref c, rfl, c, _, rfl, SqL.of hcs, .ref c, rfl, c, _, rfl, SqL.of hcs, slp, fun lo m1 m2 => ⟨.ref c, rfl, c, _, rfl, SqL.of hcs, slp, fun hi m3 m4 => ⟨by show 5 ≤ sizeLine; decide, fun t ht => ?_⟩⟩⟩
      have e3 := Ex.new ht (o := .tup [V.int (pr.1 : Nat), .int (pr.2 : Nat), .int (sl v (pr.1, pr.2)).sum, .int lo, .int hi])
      have e23 := e2.trans e3
      have hal : acc.length ≤ 2000 := by
        have := Paired.length hac
        rw [List.length_map, List.length_take] at this
        omega
      refine ⟨p, acc, .ref t, rfl, rfl, e23 _ _ hpa, Nat.lt_of_le_of_lt hal (by decide), ?_⟩
      have hpq : p ≠ q := fun w => by rw [← w, hpn] at hq; cases hq
      refine ⟨_, _, _, acc ++ [.ref t], rfl, Ex.mut (ex.trans e23) hpn, ?_, upd_same, ?_⟩
      · rw [upd_ne (Ne.symm hpq)]; exact e23 _ _ hqq
      · rw [tk, List.map_append]
        have h9 := PairedU (o := .lst (acc ++ [.ref t])) (Paired.mapP hac fun _ _ h => h.ex e23) (e23 _ _ hpa)
        refine Paired.app h9 (.cons ⟨t, rfl, ?_⟩ .nil)
        rw [upd_ne (fun w => by rw [w, e2 _ _ hpa] at ht; cases ht), upd_same]
        show some (HO.tup [V.int (pr.1 : Nat), .int (pr.2 : Nat), .int (sl v (pr.1, pr.2)).sum, .int lo, .int hi]) = some (HO.tup [V.int (pr.1 : Nat), .int (pr.2 : Nat), .int (sl v pr).sum, .int (lmin (sl v pr)), .int (lmax (sl v pr))])
        rw [lmin_uniq m1 m2, lmax_uniq m3 m4]
    · intro σ' H' h
      obtain ⟨y5, y6, y7, acc, rfl, ex, hqq, hpa, hac⟩ := h
      rw [← hxl, List.take_length] at hac
      refine ⟨_, rfl, _, rfl, .ref p, rfl, p, acc, rfl, .inl ⟨SqL.of hpa, fun t ht => ⟨by show 3 ≤ sizeLine; decide, fun u hu => ?_⟩⟩⟩
      have e2 := Ex.new ht (o := .tup acc)
      have e3 := Ex.new hu (o := .tup [V.int (l : Int), nonV la, .ref t])
      exact kk _ _ (ex.trans (e2.trans e3)) ⟨u, t, acc, rfl, upd_same, e3 _ _ upd_same, Paired.mapP hac fun _ _ h => h.ex (e2.trans e3)⟩
theorem ok_law_handed {f : Addr} {fd : FuncData} (G : Mg mg) (F : Fun K "_law_handed" "_law_handed" sLawHanded f fd) : FnOk P w K mg base CX0 1 f fd ["_law_store_here"] spLH := by
  refine F.ok scLH (fun vs H Q E h => ?_) (fun cdv A outer s H vs Q E hr h => ?_)
  · obtain ⟨l, la, L, v, rfl, _⟩ := h
    rfl
  · obtain ⟨l, la, L, v, rfl, hs, hl, kk⟩ := h
    obtain ⟨a, e, xs, rfl, ha, he, hw⟩ := hs
    refine ⟨_, pss_one (ps_ret (pe_lst (pa_cons (pe_ix ix_seq (pv 0) pe_int (fun _ _ => rfl)) (pa_cons (pe_ix ix_seq (pv 0) pe_int (fun _ _ => rfl)) (pa_cons (pe_lc (own := [("_law_span", 1)]) (te := tCB (rListOf K) (tCons (tVar 1) tNil)) (by rfl) scLH.nd (pi_seq (pe_ix ix_seq (pv 0) pe_int (fun _ _ => rfl))) (blkOk_by (own := [("_law_span", 1)]) (N := nLH) (sc := defScope sLawHanded) (by decide +kernel)) (fun _ _ _ _ _ => (pg_name (i := 1) scLH.nd rfl (.inl rfl))) (fun _ _ _ _ _ => pts_nil) (fun _ _ _ _ _ => (pe_callTy (T := "list") call_list_of (by rfl) G.list (by decide +kernel) (pa_cons (pv 1) pa_nil)))) pa_nil))))), ?_⟩
    have hxl : L.length = xs.length := Paired.length hw
    refine ⟨.ref a, rfl, .inr (.inl ⟨a, _, _, _, rfl, rfl, SqT.of ha, atI_nat (j := 0) rfl, .ref a, rfl, .inr (.inl ⟨a, _, _, _, rfl, rfl, SqT.of ha, atI_nat (j := 1) rfl, .ref a, rfl, .inr (.inl ⟨a, _, _, _, rfl, rfl, SqT.of ha, atI_nat (j := 2) rfl, ?_⟩)⟩)⟩)⟩
    refine ⟨e, xs, rfl, .inl (SqT.of he), fun J Gd wk hG D hD => ?_⟩
    refine lc_gen wk (fun m H' acc => (∃ z, H' D = some (.lst z)) ∧ Paired (fun (s : S5) (v : V) => ∃ b, v = .ref b ∧ b ≠ D ∧ H' b = some (.lst s.vs)) (L.take m) acc) (by omega) hD (fun m H' xs ys acc h r => ?_) ⟨⟨[], upd_same⟩, .nil⟩ hG ?_ ?_
    · exact ⟨⟨ys, upd_same⟩, Paired.mapP r.2 fun p v ⟨b, h1, h2, h3⟩ => ⟨b, h1, h2, by rw [upd_ne h2]; exact h3⟩⟩
    · intro m y Ha Hb acc hi ex yy hR Qy Qn hy hn
      obtain ⟨rfl, hx⟩ := yy
      obtain ⟨⟨z, hz⟩, hR⟩ := hR
      obtain ⟨s, hs, hp⟩ := Paired.atR hw hx
      obtain ⟨b, rfl, hb⟩ := hp.ex ex
      have tk : L.take (m + 1) = L.take m ++ [s] := by rw [List.take_add_one, hs]; rfl
      refine ⟨wipe1, yes_then ⟨.ref b, wipe_at (by show 1 < 2; decide), b, _, rfl, .inr (SqT.of hb), fun r hr => hy _ _ (Ex.new hr) ?_⟩⟩
      rw [tk]
      exact ⟨⟨z, Ex.new hr _ _ hz⟩, Paired.app (Paired.mapP hR fun p v ⟨b, h1, h2, h3⟩ => ⟨b, h1, h2, Ex.new hr _ _ h3⟩) (.cons ⟨r, rfl, (fun w => by rw [w, hz] at hr; cases hr), upd_same⟩ .nil)⟩
    · intro H4 acc e4 hD4 hR
      rw [← hxl, List.take_length] at hR
      refine ⟨by show 3 ≤ sizeLine; decide, fun r hr => ?_⟩
      have e5 := Ex.new hr (o := .lst [V.int (l : Int), nonV la, .ref D])
      exact kk _ _ (e4.trans e5) ⟨r, D, acc, rfl, .inl upd_same, .inl (e5 _ _ hD4), Paired.mapP hR.2 fun p v ⟨b, h1, h2, h3⟩ => ⟨b, h1, .inl (e5 _ _ h3)⟩⟩
end
end K09
set_option Elab.async false
set_option linter.all false
set_option maxRecDepth 100000
set_option maxHeartbeats 4000000
namespace K09
open PySem PySem.Spec PyProof.Rows L2 GxR Pu Evl
theorem scBox : FnScope ["_law_script", "_law_k", "_law_cell", "_law_great"] ["_law_script", "_law_k"] (defScope sBox) := ⟨rfl, rfl, rfl, by decide +kernel, rfl, by decide +kernel, by decide +kernel⟩
theorem scTake : FnScope ["_law_box_here", "_law_many", "_law_digit", "_law_raw"] ["_law_box_here", "_law_many"] (defScope sTake) := ⟨rfl, rfl, rfl, by decide +kernel, rfl, by decide +kernel, by decide +kernel⟩
theorem scPick : FnScope ["_law_box_here", "_law_some"] ["_law_box_here", "_law_some"] (defScope sPick) := ⟨rfl, rfl, rfl, by decide +kernel, rfl, by decide +kernel, by decide +kernel⟩
section
variable {P : Program} {w : World} {K : PySem.W.Frag} {mg : Str → Option Value} {base : Heap}
variable {fBox fTake fPick : Addr} {dBox dTake dPick : FuncData}
theorem atI_map {ns : List Int} {j : Nat} (h : j < ns.length) : atI (ns.map V.int) (j : Int) = some (V.int (ns.getD j 0)) := by
  refine atI_nat ?_
  rw [List.getElem?_map, List.getElem?_eq_getElem h, List.getD_eq_getElem?_getD, List.getElem?_eq_getElem h]
  rfl
theorem ok_box {ns : List Int} {f : Addr} {fd : FuncData} (G : Mg mg) (F : Fun K "_law_box" "_law_box" sBox f fd) : FnOk P w K mg base CX0 1 f fd ["_law_script", "_law_k"] (spBox K ns) := by
  refine F.ok scBox (fun vs H Q E h => ?_) (fun cdv A outer s H vs Q E hr h => ?_)
  · obtain ⟨a, k, rfl, _⟩ := h
    rfl
  · obtain ⟨a, k, rfl, hs, hn, hk, kk⟩ := h
    refine ⟨_, pss_cons (ps_set (i := 2) scBox.nd rfl (.inl rfl) (pe_op op_add (pe_op op_mul pe_int (pv 1)) pe_int))
      (pss_cons (ps_if (pt_cmpR op_lt (pv 1) (pe_callB call_len (by rfl) G.len boot_len (pa_cons (pv 0) pa_nil)) (nomark _))
        (pss_one (ps_set (i := 2) scBox.nd rfl (.inl rfl) (pe_callB call_abs (by rfl) G.abs boot_abs (pa_cons (pe_callTy (T := "int") call_int1 (by rfl) G.int (by decide +kernel) (pa_cons (pe_ix ix_list (pv 0) (pv 1) (fun _ _ => rfl)) pa_nil)) pa_nil))))
        (pss_one (ps_if (pt_cmpR op_gt (pe_callB call_len (by rfl) G.len boot_len (pa_cons (pv 0) pa_nil)) pe_int (nomark _))
          (pss_one (ps_set (i := 2) scBox.nd rfl (.inl rfl) (pe_op op_add (pv 2) (pe_op op_mul (pe_op op_mod (pe_callTy (T := "int") call_int1 (by rfl) G.int (by decide +kernel) (pa_cons
            (pe_callB call_abs (by rfl) G.abs boot_abs (pa_cons (pe_callTy (T := "int") call_int1 (by rfl) G.int (by decide +kernel) (pa_cons (pe_ix ix_list (pv 0)
              (pe_op op_mod (pe_callTy (T := "int") call_int1 (by rfl) G.int (by decide +kernel) (pa_cons (pv 1) pa_nil)) (pe_callB call_len (by rfl) G.len boot_len (pa_cons (pv 0) pa_nil))) (fun _ _ => rfl)) pa_nil)) pa_nil)) pa_nil)) pe_int) pe_int))))
          pss_nil)))
      (pss_cons (ps_set (i := 3) scBox.nd rfl (.inl rfl) (pe_ifExp (pt_cmpR op_ge (pv 2) (pe_op op_pow pe_int pe_int) (nomark _)) (pv 2) pe_int))
      (pss_one (ps_ret (pe_lst (pa_cons (pv 3) (pa_cons (pe_op op_add (pe_op op_mod (pe_callTy (T := "int") call_int1 (by rfl) G.int (by decide +kernel) (pa_cons
        (pe_op op_add (pe_op op_mul (pe_op op_mod (pe_callTy (T := "int") call_int1 (by rfl) G.int (by decide +kernel) (pa_cons (pv 2) pa_nil)) pe_int) pe_int) (pe_op op_mul pe_int (pv 1))) pa_nil)) pe_int) pe_int) pa_nil))))))), ?_⟩
    have c64 : ∀ j : Int, 0 ≤ j → j < 2 ^ 64 → ∀ i : Int, CMul i j := fun j a b i => .inr ⟨by omega, b⟩
    have d64 : ∀ j : Int, 0 ≤ j → j < 2 ^ 64 → ∀ i : Int, CMul j i := fun j a b i => .inl ⟨by omega, b⟩
    have ml : (ns.map V.int).length = ns.length := by simp
    refine q_asg (v := .int (7559 * (k : Int) + 1163)) (ev_op (ev_op ev_c (ev_var rfl) (rv_I (d64 _ (by decide) (by decide) _))) ev_c rv_I0) fun H1 e1 => ?_
    have hs1 := ex_l e1 hs
    refine q_ifSet (i := 2) (c0 := 7559 * (k : Int) + 1163) (fun c => 0 ≤ c) (et_test (ev_op (ev_var rfl) (ev_lenL (ev_var rfl) hs1) rv_I0)) (fun z => ?_) (fun _ => et_test (ev_op (ev_lenL (ev_var rfl) hs1) ev_c rv_I0)) (fun z y => ?_) ⟨by omega, rfl⟩ fun c H2 hc e2 => ?_
    · have hk2 : k < ns.length := by have := of_decide_eq_true z; omega
      refine ⟨_, ?_, ev_cb (ea_cons (ev_int1 (ev_op (ev_var rfl) (ev_var rfl) (rv_ixL hs1 (atI_map hk2)))) ea_nil) rc_abs⟩
      split <;> omega
    · have hn0 : 0 < ns.length := by have := of_decide_eq_true y; omega
      obtain ⟨j, hj, hjn⟩ := mod_nat (k : Int) (m := ns.length) hn0
      have jx : Ev (tOp (rI (fun _ j => 0 < j) fun i j => .int (i % j)) (tCB (fun xs H Q => (∃ i, xs = [V.int i] ∧ Q (.int i) H) ∨ ∃ k, xs = [.bl k] ∧ Q (.int (if k then 1 else 0)) H) (tCons (tVar 1) tNil)) (tCB (fun ys H Q => ∃ x n, ys = [x] ∧ LenV K x H n ∧ Q (.int n) H) (tCons (tVar 0) tNil))) (List.set (start ["_law_script", "_law_k", "_law_cell", "_law_great"] [V.ref a, V.int k]) 2 (some (V.int (7559 * (k : Int) + 1163)))) H1 (.int (j : Int)) :=
        ev_is (ev_op (ev_int1 (ev_var rfl)) (ev_lenL (ev_var rfl) hs1) (rv_I (by omega))) (by rw [ml, hj])
      obtain ⟨x, hx⟩ : ∃ x : Int, (if ns.getD j 0 < 0 then -ns.getD j 0 else ns.getD j 0) = x := ⟨_, rfl⟩
      have x0 := Int.emod_nonneg x (show (2147483587 : Int) ≠ 0 by decide)
      refine ⟨7559 * (k : Int) + 1163 + x % 2147483587 * 50461, by omega, ?_⟩
      refine ev_op (ev_var rfl) (ev_op (ev_op (ev_int1 (ev_is (ev_cb (ea_cons (ev_int1 (ev_op (ev_var rfl) jx (rv_ixL hs1 (atI_map hjn)))) ea_nil) rc_abs) (by rw [hx]))) ev_c (rv_I (by decide))) ev_c (rv_I (c64 _ (by decide) (by decide) _))) rv_I0
    · have pw : CPow 10 18 := ⟨by decide, by decide, by decide⟩
      obtain ⟨g, hg, hg0⟩ : ∃ g : Int, (if 10 ^ 18 ≤ c then c else 0) = g ∧ 0 ≤ g := ⟨_, rfl, by split <;> omega⟩
      refine q_asg (v := .int g) (ev_if (et_test (ev_op (ev_var rfl) (ev_op ev_c ev_c (rv_I pw)) rv_I0)) (fun z => ev_is (ev_var rfl) ?_) (fun z => ev_is ev_c ?_)) fun H3 e3 => ?_
      · rw [← hg, if_pos (show (10 : Int) ^ 18 ≤ c from of_decide_eq_true z)]
      · rw [← hg, if_neg (show ¬ (10 : Int) ^ 18 ≤ c from of_decide_eq_false z)]
      · have y0 := Int.emod_nonneg (c % 2147483587 * 69761 + 1163 * (k : Int)) (show (2147483587 : Int) ≠ 0 by decide)
        refine s_retL (xs := [.int g, .int ((c % 2147483587 * 69761 + 1163 * (k : Int)) % 2147483587 + 1)]) (el_lst (ea_cons (ev_var rfl) (ea_cons (ev_op (ev_op (ev_int1 (ev_op (ev_op (ev_op (ev_int1 (ev_var rfl)) ev_c (rv_I (by decide))) ev_c (rv_I (c64 _ (by decide) (by decide) _)))
          (ev_op ev_c (ev_var rfl) (rv_I (d64 _ (by decide) (by decide) _))) rv_I0)) ev_c (rv_I (by decide))) ev_c rv_I0) ea_nil)) (by show 2 ≤ 100000; decide)) fun p H4 hp e4 h4 => ?_
        exact kk p H4 (fresh_back ((e1.trans e2).trans e3) hp) (((e1.trans e2).trans e3).trans e4) ⟨g, _, h4, hg0, by omega⟩
theorem ok_take {f : Addr} {fd : FuncData} (G : Mg mg) (F : Fun K "_law_take" "_law_take" sTake f fd) : FnOk P w K mg base CX0 1 f fd ["_law_box_here", "_law_many"] spTake := by
  refine F.ok scTake (fun vs H Q E h => ?_) (fun cdv A outer s H vs Q E hr h => ?_)
  · obtain ⟨p, m, rfl, _⟩ := h
    rfl
  · obtain ⟨p, m, rfl, h1, h9, hb, kk⟩ := h
    refine ⟨_, pss_cons (ps_if (pt_cmpR op_gt (pe_ix ix_list (pv 0) pe_int (fun _ _ => rfl)) pe_int (nomark _))
        (pss_cons (ps_set (i := 2) scTake.nd rfl (.inl rfl) (pe_op op_mod (pe_callTy (T := "int") call_int1 (by rfl) G.int (by decide +kernel) (pa_cons (pe_ix ix_list (pv 0) pe_int (fun _ _ => rfl)) pa_nil)) (pv 1)))
        (pss_cons (ps_asg (pe_op op_fdivW (pe_ix ix_list (pv 0) pe_int (fun _ _ => rfl)) (pv 1)) (pg_sub (pv 0) pe_int set_list (fun _ => rfl)))
        (pss_one (ps_ret (pv 2)))))
        pss_nil)
      (pss_cons (ps_set (i := 3) scTake.nd rfl (.inl rfl) (pe_op op_mod (pe_callTy (T := "int") call_int1 (by rfl) G.int (by decide +kernel) (pa_cons (pe_op op_add (pe_op op_mul (pe_ix ix_list (pv 0) pe_int (fun _ _ => rfl)) pe_int) pe_int) pa_nil)) pe_int))
      (pss_cons (ps_asg (pe_op op_add (pe_op op_mod (pe_callTy (T := "int") call_int1 (by rfl) G.int (by decide +kernel) (pa_cons (pe_op op_add (pe_op op_mul (pv 3) pe_int) pe_int) pa_nil)) pe_int) pe_int) (pg_sub (pv 0) pe_int set_list (fun _ => rfl)))
      (pss_one (ps_ret (pe_op op_mod (pe_callTy (T := "int") call_int1 (by rfl) G.int (by decide +kernel) (pa_cons (pe_op op_fdiv (pe_op op_add (pe_op op_mul (pv 3) pe_int) (pe_ix ix_list (pv 0) pe_int (fun _ _ => rfl))) pe_int) pa_nil)) (pv 1)))))), ?_⟩
    obtain ⟨g, s', hH, hg, hs⟩ := hb
    have m0 : (0 : Int) < (m : Int) := by omega
    refine q_when (b := decide (0 < g)) (et_test (ev_op (ev_op (ev_var rfl) ev_c (rv_ixL (SqL.of hH) rfl)) ev_c rv_I0)) (fun hgt H1 e1 => ?_) (fun _ H1 e1 => ?_)
    · obtain ⟨d, hd, hdm⟩ := mod_nat g h1
      refine q_asg (v := .int (d : Int)) (ev_is (ev_op (ev_int1 (ev_op (ev_var rfl) ev_c (rv_ixL (SqL.of (e1 _ _ hH)) rfl))) (ev_var rfl) (rv_I m0)) (by rw [hd])) fun H2 e2 => ?_
      have h2 := (e1.trans e2) _ _ hH
      refine q_setL (j := 0) (v := .int (g / (m : Int))) h2 (ev_op (ev_op (ev_var rfl) ev_c (rv_ixL (SqL.of h2) rfl)) (ev_var rfl) (rv_I ⟨m0, ?_⟩)) (ev_var rfl) ev_c (by simp) fun H3 e3 => ?_
      · exact lt_log h9
      · exact s_ret (ev_var rfl) fun H4 e4 => kk d H4 hdm (ExB.of ((e1.trans e2).trans e3) e4 (Int.ediv_nonneg hg (by omega)) hs)
    · have h1' := e1 _ _ hH
      have c64 : ∀ j : Int, 0 ≤ j → j < 2 ^ 64 → ∀ i : Int, CMul i j := fun j a b i => .inr ⟨by omega, b⟩
      obtain ⟨r, hr⟩ : ∃ r : Int, (s' * 40692 + 79) % 2147483399 = r := ⟨_, rfl⟩
      refine q_asg (v := .int r) (ev_is (ev_op (ev_int1 (ev_op (ev_op (ev_op (ev_var rfl) ev_c (rv_ixL (SqL.of h1') rfl)) ev_c (rv_I (c64 _ (by decide) (by decide) _))) ev_c rv_I0)) ev_c (rv_I (by decide))) (by rw [hr])) fun H2 e2 => ?_
      have h2 := e2 _ _ h1'
      obtain ⟨t, ht⟩ : ∃ t : Int, (r * 39373 + 31) % 2147483587 + 1 = t := ⟨_, rfl⟩
      have t0 : 0 ≤ t := by
        have := Int.emod_nonneg (r * 39373 + 31) (show (2147483587 : Int) ≠ 0 by decide)
        omega
      refine q_setL (j := 1) (v := .int t) h2 (ev_is (ev_op (ev_op (ev_int1 (ev_op (ev_op (ev_var rfl) ev_c (rv_I (c64 _ (by decide) (by decide) _))) ev_c rv_I0)) ev_c (rv_I (by decide))) ev_c rv_I0) (by rw [ht])) (ev_var rfl) ev_c (by simp) fun H3 e3 => ?_
      have h4 : (upd H3 p (.lst ([V.int g, .int s'].set 1 (.int t)))) p = some (.lst [.int g, .int t]) := upd_same
      obtain ⟨d, hd, hdm⟩ := mod_nat ((r * 2147483629 + t) / 8167) h1
      refine s_ret (v := .int (d : Int)) (ev_is (ev_op (ev_int1 (ev_op (ev_op (ev_op (ev_var rfl) ev_c (rv_I (c64 _ (by decide) (by decide) _))) (ev_op (ev_var rfl) ev_c (rv_ixL (SqL.of h4) rfl)) rv_I0) ev_c (rv_I ?_))) (ev_var rfl) (rv_I m0)) (by rw [hd])) fun H4 e4 => kk d H4 hdm (ExB.of ((e1.trans e2).trans e3) e4 hg t0)
      exact ⟨by decide, by decide⟩
theorem ok_pick {f : Addr} {fd : FuncData} (G : Mg mg) (F : Fun K "_law_pick" "_law_pick" sPick f fd) (F1 : Fns K mg "_law_take" ["_law_box_here", "_law_many"] sTake fTake dTake) : FnOk P w K mg base CX0 2 f fd ["_law_box_here", "_law_some"] spPick := by
  have G1 : FnOk P w K mg base CX0 1 fTake dTake ["_law_box_here", "_law_many"] spTake := ok_take G F1.fn
  refine F.ok scPick (fun vs H Q E h => ?_) (fun cdv A outer s H vs Q E hr h => ?_)
  · obtain ⟨p, q, ys, rfl, _⟩ := h
    rfl
  · obtain ⟨p, q, ys, rfl, hb, hq, hne, hl, hz, kk⟩ := h
    refine ⟨_, pss_one (ps_ret (pe_ix ix_list (pv 1) (pe_call G1 hr (by rfl) F1.mg F1.fn.kp F1.bd .nil pass0 (pa_cons (pv 0) (pa_cons (pe_callB call_len (by rfl) G.len boot_len (pa_cons (pv 1) pa_nil)) pa_nil))) (fun _ _ => rfl))), ?_⟩
    refine ⟨.ref q, rfl, .ref p, rfl, .ref q, rfl, .ref q, ys.length, rfl, .inl ⟨ys, SqL.of hq, rfl⟩, p, ys.length, rfl, hl, by omega, hb, fun d H' hd e => ?_⟩
    refine ⟨q, ys, d, ys[d], rfl, rfl, SqL.of (e.2 _ _ hne hq), atI_nat (List.getElem?_eq_getElem hd), kk _ H' (List.getElem_mem hd) e⟩
end
end K09
set_option Elab.async false
set_option linter.all false
set_option maxRecDepth 100000
set_option maxHeartbeats 4000000
namespace K09
open PySem PySem.Spec PyProof.Rows L2 GxR Pu Evl Sh Sv
abbrev lawN : List Str := ["_law_script", "_law_box_here", "_law_keep", "_law_store_here", "_law_spans", "_law_values", "_law_last", "_law_rows", "_law_k", "_law_below", "_law_stamp", "_law_value", "_law_row", "_law_due", "_law_one"]
theorem scLaw : FnScope lawN ["_law_script"] (defScope sLaw) := ⟨rfl, rfl, rfl, by decide +kernel, rfl, by decide +kernel, by decide +kernel⟩
def bodyOf : Stmt → List Stmt
  | .For _ _ b _ _ => b
  | .If _ b _ _ => b
  | _ => []
def lawS (i : Nat) : Stmt := (defBody sLaw).getD i (.Pass ⟨0, 0, 0, 0⟩)
def forS (i : Nat) : Stmt := (bodyOf (lawS 4)).getD i (.Pass ⟨0, 0, 0, 0⟩)
abbrev LX (P : Program) (w : World) (K : PySem.W.Frag) (mg : Str → Option Value) (base : Heap) (fa : Addr) (cdv : Value) (s0 : Shared) (H0 : Hp) : Cx := (cxOf CX0 P w K mg base lawN "law" (defScope sLaw) fa cdv callerA [] s0 H0 E0).nox
structure Cal (P : Program) (w : World) (K : PySem.W.Frag) (mg : Str → Option Value) (base : Heap) (x : Str) (ps : List Str) (st : Stmt) (k : Nat) (sp : Sp) (f : Addr) (fd : FuncData) : Prop where
  ns : Fns K mg x ps st f fd
  ok : FnOk P w K mg base CX0 k f fd ps sp
/-- a step of the law, told by the turn i -/
def Ti (X : Cx) (st : Stmt) (A B : Nat → L2.St → Hp → Prop) : Prop := ∃ t, PS X st t ∧ ∀ i D σ H, A i σ H → (∀ σ' H', B i σ' H' → D.nx σ' H') → t D σ H
def Tis (X : Cx) (l : List Stmt) (A B : Nat → L2.St → Hp → Prop) : Prop := ∃ t, PSs X l t ∧ ∀ i D σ H, A i σ H → (∀ σ' H', B i σ' H' → D.nx σ' H') → t D σ H
theorem Tis.cons {X : Cx} {st : Stmt} {l : List Stmt} {A B C : Nat → L2.St → Hp → Prop} (h : Ti X st A B) (k : Tis X l B C) : Tis X (st :: l) A C := by
  obtain ⟨t, h1, h2⟩ := h
  obtain ⟨u, k1, k2⟩ := k
  exact ⟨_, pss_cons h1 k1, fun i D σ H a q => h2 i { D with nx := u D } σ H a fun σ' H' b => k2 i D σ' H' b q⟩
theorem Tis.one {X : Cx} {st : Stmt} {A B : Nat → L2.St → Hp → Prop} (h : Ti X st A B) : Tis X [st] A B := by
  obtain ⟨t, h1, h2⟩ := h
  exact ⟨_, pss_one h1, h2⟩
/-- what the law holds -/
structure D9 where
  k : Nat
  f : Nat
  v : List Int
  la : Option Nat
  R : List (Option Nat × Int)
  p : Addr
  q : Addr
  z : Addr
  r : Addr
  u : V
  xs : List V
  zs : List V
def D9.S (d : D9) : List (Nat × Nat) := shp d.k d.f d.v.length
def D9.L (d : D9) : List S5 := d.S.map (spn d.v)
/-- the numbers of it -/
structure Num (d : D9) (i : Nat) : Prop where
  k2 : 2 ≤ d.k
  k8 : d.k ≤ 8
  fl : d.f ≤ d.v.length
  vok : Vok d.v
  run : Run d.k d.R (d.v.length, d.la, d.L)
  nla : d.la = none ↔ d.v.length = 0
  lab : ∀ n, d.la = some n → n ≤ 5 * i
  li : d.v.length ≤ i
  ri : d.R.length ≤ i
structure Ctx (K : PySem.W.Frag) (T U a : Addr) (ns : List Int) (d : D9) (σ : L2.St) (H : Hp) : Prop where
  len : σ.length = 15
  v0 : σ[0]? = some (some (.ref a))
  v1 : σ[1]? = some (some (.ref d.p))
  v2 : σ[2]? = some (some (.int (d.k : Int)))
  v3 : σ[3]? = some (some d.u)
  v4 : σ[4]? = some (some (.ref d.q))
  v5 : σ[5]? = some (some (.ref d.z))
  v6 : σ[6]? = some (some (nonV d.la))
  v7 : σ[7]? = some (some (.ref d.r))
  hs : Hs K T a ns d.p H
  tU : TabG H U
  nTU : T ≠ U
  st : StT H d.v.length d.la d.L d.u
  hq : H d.q = some (.lst d.xs)
  pr : PrT H d.S d.xs
  hz : H d.z = some (.lst (d.v.map V.int))
  hr : H d.r = some (.lst d.zs)
  rw : Paired (RowT H) d.R d.zs
  qr : d.q ≠ d.r
  zr : d.z ≠ d.r
  rp : d.r ≠ d.p
  qp : d.q ≠ d.p
  zp : d.z ≠ d.p
  ar : (∀ H', SqL K H' a (ns.map V.int)) ∨ a ≠ d.r
section
variable {P : Program} {w : World} {K : PySem.W.Frag} {mg : Str → Option Value} {base : Heap} {T U a fa : Addr} {ns : List Int} {cdv : Value} {s0 : Shared} {H0 : Hp} {d : D9} {σ : L2.St} {H H' : Hp} {i : Nat}
theorem Ctx.step (c : Ctx K T U a ns d σ H) (s : Stp T d.p H H') : Ctx K T U a ns d σ H' := by
  have tup : ∀ {b : Addr} {xs : List V}, H b = some (.tup xs) → H' b = some (.tup xs) := fun {b xs} h => s.tup c.hs h
  refine ⟨c.len, c.v0, c.v1, c.v2, c.v3, c.v4, c.v5, c.v6, c.v7, c.hs.step s, ?_, c.nTU, ?_, s.lst c.hs c.qp c.hq, s.prT c.hs c.pr, s.lst c.hs c.zp c.hz, s.lst c.hs c.rp c.hr, ?_, c.qr, c.zr, c.rp, c.qp, c.zp, c.ar⟩
  · obtain ⟨ps, h1, h2⟩ := c.tU
    obtain ⟨g, s', h3, _⟩ := c.hs.box
    exact ⟨ps, s.kp _ _ (fun z => by rw [z, h3] at h1; cases h1) (Ne.symm c.nTU) h1, h2⟩
  · obtain ⟨x, y, xs, h0, h1, h2, h3⟩ := c.st
    exact ⟨x, y, xs, h0, tup h1, tup h2, Paired.mapP h3 fun _ _ ⟨b, h1, h2⟩ => ⟨b, h1, tup h2⟩⟩
  · exact Paired.mapP c.rw fun _ _ ⟨b, h1, h2⟩ => ⟨b, h1, tup h2⟩
theorem Ctx.ex (c : Ctx K T U a ns d σ H) (e : Ex H H') : Ctx K T U a ns d σ H' := c.step (c.hs.ex e)
theorem Ctx.exB (c : Ctx K T U a ns d σ H) (e : ExB d.p H H') : Ctx K T U a ns d σ H' := c.step (c.hs.exB e)
theorem Ctx.set (c : Ctx K T U a ns d σ H) {i : Nat} {v : Option V} (h : 8 ≤ i) : Ctx K T U a ns d (σ.set i v) H :=
  ⟨by rw [List.length_set]; exact c.len, sl_ne c.v0 (by omega), sl_ne c.v1 (by omega), sl_ne c.v2 (by omega), sl_ne c.v3 (by omega), sl_ne c.v4 (by omega), sl_ne c.v5 (by omega), sl_ne c.v6 (by omega), sl_ne c.v7 (by omega), c.hs, c.tU, c.nTU, c.st, c.hq, c.pr, c.hz, c.hr, c.rw, c.qr, c.zr, c.rp, c.qp, c.zp, c.ar⟩
/-- a new box -/
theorem Ctx.box {p' : Addr} (c : Ctx K T U a ns d σ H) (n : H p' = none) (e : Ex H H') (b : BoxAt H' p') : Ctx K T U a ns { d with p := p' } (σ.set 1 (some (.ref p'))) H' := by
  have ne : ∀ {b : Addr} {o : HO}, H b = some o → b ≠ p' := fun {b o} h z => by rw [z, n] at h; cases h
  have c' := c.ex e
  refine ⟨by rw [List.length_set]; exact c.len, sl_ne c.v0 (by decide), sl_eq (by rw [c.len]; decide), sl_ne c.v2 (by decide), sl_ne c.v3 (by decide), sl_ne c.v4 (by decide), sl_ne c.v5 (by decide), sl_ne c.v6 (by decide), sl_ne c.v7 (by decide), c.hs.renew n e b, c'.tU, c.nTU, c'.st, c'.hq, c'.pr, c'.hz, c'.hr, c'.rw, c.qr, c.zr, ne c.hr, ne c.hq, ne c.hz, c.ar⟩
theorem Hs.bend {p r : Addr} {xs ys : List V} (h : Hs K T a ns p H) (hr : H r = some (.lst xs)) (rp : r ≠ p) (ar : (∀ H', SqL K H' a (ns.map V.int)) ∨ a ≠ r) : Hs K T a ns p (upd H r (.lst ys)) := by
  obtain ⟨ps, t1, t2⟩ := h.tab
  obtain ⟨g, s', b1, b2⟩ := h.box
  have nT : T ≠ r := fun z => by rw [z, hr] at t1; cases t1
  refine ⟨⟨ps, by rw [upd_ne nT]; exact t1, t2⟩, ⟨g, s', by rw [upd_ne rp.symm]; exact b1, b2⟩, fun H'' k => ?_⟩
  rcases ar with l | n
  · exact l H''
  · have q := h.scr (fun b => if b = r then H r else H'' b) fun b o n1 n2 e => by
      by_cases z : b = r
      · subst z; exact (if_pos rfl).trans e
      · exact (if_neg z).trans (k b o n1 n2 (by rw [upd_ne z]; exact e))
    refine q.imp (fun s => ?_) id
    have e : (if a = r then H r else H'' a) = H'' a := if_neg n
    rcases s with s | ⟨o, s⟩
    · exact .inl (e.symm.trans s)
    · exact .inr ⟨o, e.symm.trans s⟩
/-- one more deed is written down -/
theorem Ctx.bend {ys : List V} {R' : List (Option Nat × Int)} (c : Ctx K T U a ns d σ H) (h : Paired (RowT H) R' ys) : Ctx K T U a ns { d with R := R', zs := ys } σ (upd H d.r (.lst ys)) := by
  have tup : ∀ {b : Addr} {xs : List V}, H b = some (.tup xs) → upd H d.r (.lst ys) b = some (.tup xs) := fun {b xs} h => by
    rw [upd_ne (fun z => by rw [z, c.hr] at h; cases h)]
    exact h
  obtain ⟨ps, t1, t2⟩ := c.tU
  have nU : U ≠ d.r := fun z => by rw [z, c.hr] at t1; cases t1
  refine ⟨c.len, c.v0, c.v1, c.v2, c.v3, c.v4, c.v5, c.v6, c.v7, Hs.bend c.hs c.hr c.rp c.ar, ⟨ps, by rw [upd_ne nU]; exact t1, t2⟩, c.nTU, ?_, by rw [upd_ne c.qr]; exact c.hq, Paired.mapP c.pr fun _ _ ⟨b, k1, k2⟩ => ⟨b, k1, tup k2⟩, by rw [upd_ne c.zr]; exact c.hz, upd_same, Paired.mapP h fun _ _ ⟨b, k1, k2⟩ => ⟨b, k1, tup k2⟩, c.qr, c.zr, c.rp, c.qp, c.zp, c.ar⟩
  obtain ⟨x, y, xs, h0, h1, h2, h3⟩ := c.st
  exact ⟨x, y, xs, h0, tup h1, tup h2, Paired.mapP h3 fun _ _ ⟨b, h1, h2⟩ => ⟨b, h1, tup h2⟩⟩
/-- the turn begins -/
def B0 (K : PySem.W.Frag) (T U a : Addr) (ns : List Int) (i : Nat) (σ : L2.St) (H : Hp) : Prop := ∃ d, Ctx K T U a ns d σ H ∧ Num d i ∧ i < 60 ∧ σ[8]? = some (some (.int ((i + 1 : Nat) : Int)))
def B1 (K : PySem.W.Frag) (T U a : Addr) (ns : List Int) (i : Nat) (σ : L2.St) (H : Hp) : Prop := ∃ d, Ctx K T U a ns d σ H ∧ Num d i ∧ i < 60
def B2 (K : PySem.W.Frag) (T U a : Addr) (ns : List Int) (i : Nat) (σ : L2.St) (H : Hp) : Prop := ∃ d, Ctx K T U a ns d σ H ∧ Num d (i + 1) ∧ i < 60
variable {fBox : Addr} {dBox : FuncData}
theorem Num.box {p' : Addr} (n : Num d i) : Num { d with p := p' } i := ⟨n.k2, n.k8, n.fl, n.vok, n.run, n.nla, n.lab, n.li, n.ri⟩
theorem ti_box (hr : Room 9 (LX P w K mg base fa cdv s0 H0).A) (C : Cal P w K mg base "_law_box" ["_law_script", "_law_k"] sBox 1 (spBox K ns) fBox dBox) (hn : ns.length ≤ 100) : Ti (LX P w K mg base fa cdv s0 H0) (forS 0) (B0 K T U a ns) (B1 K T U a ns) := by
  refine ⟨_, ps_set (i := 1) scLaw.nd rfl (.inl rfl) (pe_call C.ok (hr.mono (by decide)) (by rfl) C.ns.mg C.ns.fn.kp C.ns.bd .nil pass0 (pa_cons (pv 0) (pa_cons (pv 8) pa_nil))), fun i D σ H hA k => ?_⟩
  obtain ⟨d, c, n, hi, h8⟩ := hA
  exact ⟨_, c.v0, _, h8, a, i + 1, rfl, c.hs.scrL, hn, by omega, fun p' H' hp e hb => k _ _ ⟨_, c.box hp e hb, n.box, hi⟩⟩
end
end K09
set_option Elab.async false
set_option linter.all false
set_option maxRecDepth 100000
set_option maxHeartbeats 4000000
namespace K09
open PySem PySem.Spec PyProof.Rows L2 GxR Pu Evl Sh Sv
theorem par_of {i j : Nat} {ta : TA} {u : TS} {D : Ends} {σ : L2.St} {H : Hp} (h : ta σ H fun vs H1 => ∃ v w, vs = [v, w] ∧ u D ((σ.set i (some v)).set j (some w)) H1) : tSeq (tPar i j ta) u D σ H := h
theorem cons_of {te : TE} {ts : TA} {σ : L2.St} {H : Hp} {Q : List V → Hp → Prop} (h : te σ H fun v H1 => ts σ H1 fun vs H2 => Q (v :: vs) H2) : tCons te ts σ H Q := h
theorem op_of {r : R2} {ta tb : TE} {σ : L2.St} {H : Hp} {Q : VK} (h : ta σ H fun x H1 => tb σ H1 fun y H2 => r x y H2 Q) : tOp r ta tb σ H Q := h
theorem stay_map (S : List (Nat × Nat)) (v : List Int) (b : Nat) : stay (S.map (spn v)) b = (gone b S).map (spn v) := by
  unfold stay gone
  rw [List.filter_map]
  congr 1
  refine List.filter_congr fun p _ => ?_
  show decide (((p.1 : Nat) : Int) + (p.2 : Nat) > (b : Int)) = decide (b < p.1 + p.2)
  exact decide_eq_decide.mpr (by omega)
theorem stay_len (L : List S5) (b : Nat) : (stay L b).length ≤ L.length := List.length_filter_le ..
theorem D9.Sl {d : D9} {i : Nat} (n : Num d i) : d.S.length ≤ d.v.length := Nat.le_trans (shp_len n.k2) (Nat.sub_le _ _)
theorem D9.Ll {d : D9} : d.L.length = d.S.length := List.length_map ..
/-- the eldest row behind a letting go -/
def D9.f' (d : D9) (b : Nat) : Nat := firstOf (gone b d.S) d.v.length
theorem D9.gone {d : D9} {i : Nat} (n : Num d i) (b : Nat) : d.f' b ≤ d.v.length ∧ gone b d.S = shp d.k (d.f' b) d.v.length := gone_shp n.k2 n.fl
theorem Num.go {d d' : D9} {i b : Nat} (n : Num d i) (e1 : d'.k = d.k) (e2 : d'.f = d.f' b) (e3 : d'.v = d.v) (e4 : d'.la = d.la) (e5 : d'.R = d.R ++ [(none, (b : Int))]) : Num d' (i + 1) := by
  obtain ⟨g1, g2⟩ := D9.gone n b
  have eL : d'.L = stay d.L b := by
    unfold D9.L D9.S
    rw [stay_map, e1, e2, e3]
    show List.map _ (shp d.k (d.f' b) d.v.length) = _
    rw [← g2]
    rfl
  refine ⟨by rw [e1]; exact n.k2, by rw [e1]; exact n.k8, by rw [e2, e3]; exact g1, by rw [e3]; exact n.vok, ?_, by rw [e3, e4]; exact n.nla, fun m hm => ?_, by rw [e3]; have := n.li; omega, ?_⟩
  · rw [e1, e3, e4, e5, eL]
    refine n.run.snoc ⟨?_, b, rfl, rfl⟩
    show d.L.length ≤ 2000
    rw [D9.Ll]
    have := D9.Sl n
    have := n.vok.1
    omega
  · rw [e4] at hm
    have := n.lab m hm
    omega
  · rw [e5, List.length_append, List.length_singleton]
    have := n.ri
    omega
theorem vok_snoc {v : List Int} {x : Int} (h : Vok v) (hl : v.length < 1000) (x1 : -1000000 ≤ x) (x2 : x ≤ 1000000) : Vok (v ++ [x]) := by
  refine ⟨by rw [List.length_append, List.length_singleton]; omega, fun y hy => ?_⟩
  rcases List.mem_append.mp hy with q | q
  · exact h.2 y q
  · rw [List.mem_singleton.mp q]; exact ⟨x1, x2⟩
theorem rl_lay {d : D9} {i : Nat} {x : Int} (n : Num d i) (hv : Vok (d.v ++ [x])) : Rl d.k (d.L ++ [rowS d.v.length x]) ((shp d.k d.f (d.v.length + 1)).map (spn (d.v ++ [x]))) := by
  have fl := n.fl
  refine ⟨d.f, d.v.length - d.f, d.v ++ [x], n.k2, n.k8, hv, by rw [List.length_append, List.length_singleton]; omega, ?_, ?_⟩
  · have e : lvl d.f (counts d.k (d.v.length - d.f)) 1 [] = d.S ++ [(d.v.length, 1)] := by
      unfold lvl
      rw [sh_bump, List.append_nil, counts_tot n.k2, show d.f + (d.v.length - d.f) = d.v.length by omega]
      rfl
    rw [e, List.map_append]
    congr 1
    · unfold D9.L
      refine List.map_congr_left fun p hp => (spn_snoc ?_).symm
      exact (shp_mem n.k2 fl hp).2.1
    · show [rowS d.v.length x] = [spn (d.v ++ [x]) (d.v.length, 1)]
      rw [spn_last]
  · unfold shp
    rw [show d.v.length + 1 - d.f = d.v.length - d.f + 1 by omega]
theorem Num.lay {d d' : D9} {i st : Nat} {x : Int} (n : Num d i) (hi : i < 60) (x1 : -1000000 ≤ x) (x2 : x ≤ 1000000) (h1 : ∀ m, d.la = some m → m < st) (h2 : st ≤ 5 * (i + 1)) (e1 : d'.k = d.k) (e2 : d'.f = d.f) (e3 : d'.v = d.v ++ [x]) (e4 : d'.la = some st) (e5 : d'.R = d.R ++ [(some st, x)]) : Num d' (i + 1) := by
  have li := n.li
  have fl := n.fl
  have hv := vok_snoc n.vok (by omega) x1 x2
  have hvl : (d.v ++ [x]).length = d.v.length + 1 := by rw [List.length_append, List.length_singleton]
  have eL : d'.L = (shp d.k d.f (d.v.length + 1)).map (spn (d.v ++ [x])) := by
    unfold D9.L D9.S
    rw [e1, e2, e3, hvl]
  refine ⟨by rw [e1]; exact n.k2, by rw [e1]; exact n.k8, by rw [e2, e3, hvl]; omega, by rw [e3]; exact hv, ?_, by rw [e3, e4, hvl]; exact ⟨(fun z => nomatch z), (fun z => by omega)⟩, fun m hm => ?_, by rw [e3, hvl]; omega, ?_⟩
  · rw [e1, e3, e4, e5, eL, hvl]
    refine n.run.snoc ⟨?_, _, h1, x1, x2, rl_lay n hv, rfl⟩
    show d.L.length ≤ 2000
    rw [D9.Ll]
    have := D9.Sl n
    omega
  · rw [e4] at hm
    cases hm
    exact h2
  · rw [e5, List.length_append, List.length_singleton]
    have := n.ri
    omega
section
variable {P : Program} {w : World} {K : PySem.W.Frag} {mg : Str → Option Value} {base : Heap} {T U a fa : Addr} {ns : List Int} {cdv : Value} {s0 : Shared} {H0 : Hp} {d : D9} {σ : L2.St} {H H' : Hp} {i : Nat}
variable {fTake fPick fLG fHa fLL fLa : Addr} {dTake dPick dLG dHa dLL dLa : FuncData}
/-- spans that stay -/
theorem q_stay {q : Addr} {xs : List V} {S : List (Nat × Nat)} {b : Nat} (len : σ.length = 15) (h4 : σ[4]? = some (some (.ref q))) (h9 : σ[9]? = some (some (.int (b : Int)))) (hq : H q = some (.lst xs)) (hp : PrT H S xs) (hl : S.length ≤ 2000) {Q : VK}
    (k : ∀ D H' acc, H D = none → Ex H H' → H' D = some (.lst acc) → PrT H' (gone b S) acc → Q (.ref D) H') :
    tLc (iSeq K (tVar 4)) (gName 14) (tTest (tOp (rI0 fun i j => .bl (decide (j < i))) (tOp (rI0 fun i j => .int (i + j)) (tOp (rIx K) (tVar 14) (tC (.int 0))) (tOp (rIx K) (tVar 14) (tC (.int 1)))) (tVar 9))) (tVar 14) [14] σ H Q := by
  have hxl : S.length = xs.length := Paired.length hp
  refine ⟨.ref q, h4, q, xs, rfl, .inr (SqL.of hq), fun J Gd wk hG D hD => ?_⟩
  refine lc_gen wk (fun m H' acc => (∃ z, H' D = some (.lst z)) ∧ PrT H' (gone b (S.take m)) acc) (by omega) hD (fun m H xs ys acc h r => ⟨⟨ys, upd_same⟩, r.2.upd h⟩) ⟨⟨[], upd_same⟩, .nil⟩ hG ?_ ?_
  · intro m y Ha Hb acc hi ex yy hR Qy Qn hy hn
    obtain ⟨rfl, hx⟩ := yy
    obtain ⟨s, hs, t, rfl, ht⟩ := Paired.atR (hp.ex ex) hx
    have tk : gone b (S.take (m + 1)) = gone b (S.take m) ++ if b < s.1 + s.2 then [s] else [] := by
      unfold gone
      rw [List.take_add_one, hs, List.filter_append]
      congr 1
      show List.filter _ [s] = _
      rw [List.filter_cons]
      by_cases c : b < s.1 + s.2
      · rw [if_pos (decide_eq_true c), if_pos c]; rfl
      · rw [if_neg (by rw [decide_eq_true_eq]; exact c), if_neg c]; rfl
    refine ⟨wipe1, _, wipe_at (by rw [len]; decide), .inr (.inl ⟨t, _, _, _, rfl, rfl, SqT.of ht, atI_nat (j := 0) rfl, _, wipe_at (by rw [len]; decide), .inr (.inl ⟨t, _, _, _, rfl, rfl, SqT.of ht, atI_nat (j := 1) rfl, _, _, rfl, rfl, _, wipe_ne h9 (by decide), _, _, rfl, rfl, _, rfl, ite2 (fun c => ?_) fun c => ?_⟩)⟩)⟩
    · have c' : b < s.1 + s.2 := by have := of_decide_eq_true c; omega
      refine ⟨_, wipe_at (by rw [len]; decide), hy _ _ (Ex.refl _) ?_⟩
      rw [tk, if_pos c']
      exact ⟨hR.1, hR.2.snoc ht⟩
    · have c' : ¬ b < s.1 + s.2 := fun z => c (decide_eq_true (by omega))
      refine hn _ (Ex.refl _) ?_
      rw [tk, if_neg c', List.append_nil]
      exact hR
  · intro H4 acc e4 hD4 hR
    rw [← hxl, List.take_length] at hR
    exact k D H4 acc hD e4 hD4 hR.2
theorem ti_if (hr : Room 9 (LX P w K mg base fa cdv s0 H0).A) (G : Mg mg) (C1 : Cal P w K mg base "_law_pick" ["_law_box_here", "_law_some"] sPick 2 spPick fPick dPick) (C2 : Cal P w K mg base "_law_take" ["_law_box_here", "_law_many"] sTake 1 spTake fTake dTake)
    (C3 : Cal P w K mg base "let_go" ["store", "below"] sLetGo 4 spLetGo fLG dLG) (W3 : KwOk K dLG ["store", "below"] ["below", "store"] (perm [1, 0]) (perm [1, 0])) (C4 : Cal P w K mg base "_law_handed" ["_law_store_here"] sLawHanded 1 spLH fHa dHa)
    (C5 : Cal P w K mg base "_law_laid" ["_law_spans", "_law_keep", "_law_row"] sLawLaid 1 spLL fLL dLL) (C6 : Cal P w K mg base "lay" ["store", "keep", "stamp", "value"] sLay 7 (spLay Rl) fLa dLa) (W6 : KwOk K dLa ["store", "keep", "stamp", "value"] ["value", "stamp", "keep", "store"] (perm [3, 2, 1, 0]) (perm [3, 2, 1, 0])) :
    Ti (LX P w K mg base fa cdv s0 H0) (forS 1) (B1 K T U a ns) (B2 K T U a ns) := by
  refine ⟨_, (ps_if (pt_cmpR op_eq (pe_call C2.ok (hr.mono (by decide)) (by rfl) C2.ns.mg C2.ns.fn.kp C2.ns.bd .nil pass0 (pa_cons (pv 1) (pa_cons pe_int pa_nil))) pe_int (nomark _)) (pss_cons (ps_set (i := 9) scLaw.nd rfl (.inr rfl) (pe_call C1.ok (hr.mono (by decide)) (by rfl) C1.ns.mg C1.ns.fn.kp C1.ns.bd .nil pass0 (pa_cons (pv 1) (pa_cons (pe_lst (pa_cons pe_int (pa_cons (pe_callB call_len_seq (by rfl) G.len PySem.boot_len (pa_cons (pv 5) pa_nil)) (pa_cons (pe_call C2.ok (hr.mono (by decide)) (by rfl) C2.ns.mg C2.ns.fn.kp C2.ns.bd .nil pass0 (pa_cons (pv 1) (pa_cons (pe_op op_add (pe_callB call_len_seq (by rfl) G.len PySem.boot_len (pa_cons (pv 5) pa_nil)) pe_int) pa_nil))) (pa_cons (pe_call C2.ok (hr.mono (by decide)) (by rfl) C2.ns.mg C2.ns.fn.kp C2.ns.bd .nil pass0 (pa_cons (pv 1) (pa_cons (pe_op op_add (pe_callB call_len_seq (by rfl) G.len PySem.boot_len (pa_cons (pv 5) pa_nil)) pe_int) pa_nil))) pa_nil))))) pa_nil))))
    (pss_cons (ps_setLc (i := 4) (own := [("_law_one", 14)]) (g := gName 14) (te := (tVar 14)) (tt := tTest (tOp (rI0 fun i j => .bl (decide (j < i))) (tOp (rI0 fun i j => .int (i + j)) (tOp (rIx K) (tVar 14) (tC (.int 0))) (tOp (rIx K) (tVar 14) (tC (.int 1)))) (tVar 9))) (by rfl) scLaw.nd rfl rfl (sw_true rfl rfl rfl (by decide +kernel)) (pi_seq (pv 4)) (blkOk_by (own := [("_law_one", 14)]) (N := lawN) (sc := defScope sLaw) (by decide +kernel)) (fun _ _ _ _ _ => (pg_name (i := 14) scLaw.nd rfl (.inl rfl))) (fun _ _ _ _ _ => pts_one (pt_cmpR op_gt (pe_op op_add (pe_ix ix_seq (pv 14) pe_int (fun _ _ => rfl)) (pe_ix ix_seq (pv 14) pe_int (fun _ _ => rfl))) (pv 9) (nomark _))) (fun _ _ _ _ _ => (pv 14)))
    (pss_cons (ps_set (i := 3) scLaw.nd rfl (.inl rfl) (pe_ifExp (pt_cmpR op_eq (pe_call C2.ok (hr.mono (by decide)) (by rfl) C2.ns.mg C2.ns.fn.kp C2.ns.bd .nil pass0 (pa_cons (pv 1) (pa_cons pe_int pa_nil))) pe_int (nomark _)) (pe_call C3.ok (hr.mono (by decide)) (by rfl) C3.ns.mg C3.ns.fn.kp C3.ns.bd .nil pass0 (pa_cons (pv 3) (pa_cons (pv 9) pa_nil))) (pe_callW C3.ok (hr.mono (by decide)) (by rfl) C3.ns.mg C3.ns.fn.kp W3 pass0 (pk_cons (pv 9) (pk_cons (pe_call C4.ok (hr.mono (by decide)) (by rfl) C4.ns.mg C4.ns.fn.kp C4.ns.bd .nil pass0 (pa_cons (pv 3) pa_nil)) pk_nil)))))
    (pss_one (ps_expr (pe_bm PySem.F.plainAttrs_list PySem.F.slot_list_append PySem.F.type_list_append mt_append (pv 7) (pa_cons (pe_tup (pa_cons pe_non (pa_cons (pv 9) pa_nil))) pa_nil))))))) (pss_cons (ps_par (i := 10) (j := 11) rfl scLaw.nd rfl rfl (by decide) rfl rfl (pa_cons (pe_op op_add (pe_ifExp (pt_cmp (pc_isN (pv 6))) pe_int (pe_op op_add (pv 6) pe_int)) (pe_call C2.ok (hr.mono (by decide)) (by rfl) C2.ns.mg C2.ns.fn.kp C2.ns.bd .nil pass0 (pa_cons (pv 1) (pa_cons pe_int pa_nil)))) (pa_cons (pe_call C1.ok (hr.mono (by decide)) (by rfl) C1.ns.mg C1.ns.fn.kp C1.ns.bd .nil pass0 (pa_cons (pv 1) (pa_cons (pe_lst (pa_cons (pe_op op_sub (pe_call C2.ok (hr.mono (by decide)) (by rfl) C2.ns.mg C2.ns.fn.kp C2.ns.bd .nil pass0 (pa_cons (pv 1) (pa_cons pe_int pa_nil))) pe_int) (pa_cons (pe_op op_pow pe_int pe_int) (pa_cons (pe_op op_sub pe_int (pe_op op_pow pe_int pe_int)) pa_nil)))) pa_nil))) pa_nil)) (by rfl))
    (pss_cons (ps_par3 (i := 4) (j := 5) (l := 6) rfl scLaw.nd rfl rfl rfl (by decide) (by decide) (by decide) rfl rfl rfl (pa_cons (pe_call C5.ok (hr.mono (by decide)) (by rfl) C5.ns.mg C5.ns.fn.kp C5.ns.bd .nil pass0 (pa_cons (pv 4) (pa_cons (pv 2) (pa_cons (pe_callB call_len_seq (by rfl) G.len PySem.boot_len (pa_cons (pv 5) pa_nil)) pa_nil)))) (pa_cons (pe_op op_cat (pv 5) (pe_lst (pa_cons (pv 11) pa_nil))) (pa_cons (pv 10) pa_nil))) (by rfl))
    (pss_cons (ps_set (i := 3) scLaw.nd rfl (.inl rfl) (pe_ifExp (pt_cmpR op_eq (pe_call C2.ok (hr.mono (by decide)) (by rfl) C2.ns.mg C2.ns.fn.kp C2.ns.bd .nil pass0 (pa_cons (pv 1) (pa_cons pe_int pa_nil))) pe_int (nomark _)) (pe_call C6.ok (hr.mono (by decide)) (by rfl) C6.ns.mg C6.ns.fn.kp C6.ns.bd .nil pass0 (pa_cons (pv 3) (pa_cons (pv 2) (pa_cons (pv 10) (pa_cons (pv 11) pa_nil))))) (pe_callW C6.ok (hr.mono (by decide)) (by rfl) C6.ns.mg C6.ns.fn.kp W6 pass0 (pk_cons (pv 11) (pk_cons (pv 10) (pk_cons (pv 2) (pk_cons (pe_call C4.ok (hr.mono (by decide)) (by rfl) C4.ns.mg C4.ns.fn.kp C4.ns.bd .nil pass0 (pa_cons (pv 3) pa_nil)) pk_nil)))))))
    (pss_one (ps_expr (pe_bm PySem.F.plainAttrs_list PySem.F.slot_list_append PySem.F.type_list_append mt_append (pv 7) (pa_cons (pe_tup (pa_cons (pv 10) (pa_cons (pv 11) pa_nil))) pa_nil)))))))), fun i D σ H hA kk => ?_⟩
  obtain ⟨d, c, n, hi⟩ := hA
  have vl := n.li
  have sl := D9.Sl n
  have ll : d.L.length = d.S.length := D9.Ll
  refine ⟨.ref d.p, c.v1, d.p, 6, rfl, by decide, by decide, c.hs.box, fun d1 H1 hd1 e1 => ⟨rfl, _, rfl, ?_⟩⟩
  have c1 := c.exB e1
  refine ite2 (fun _ => ?_) fun _ => ?_
  · have hz1 := c1.hz
    refine ⟨.ref d.p, c1.v1, .ref d.z, c1.v5, d.z, _, rfl, .inl (SqL.of hz1), ?_⟩
    have hvl : (d.v.map V.int).length = d.v.length := List.length_map ..
    refine ⟨.ref d.p, c1.v1, .ref d.z, c1.v5, d.z, _, rfl, .inl (SqL.of hz1), _, _, rfl, rfl, d.p, (d.v.map V.int).length + 3, rfl, by omega, by rw [hvl]; omega, c1.hs.box, fun d2 H2 hd2 e2 => ?_⟩
    have c2 := c1.exB e2
    refine ⟨.ref d.p, c2.v1, .ref d.z, c2.v5, d.z, _, rfl, .inl (SqL.of c2.hz), _, _, rfl, rfl, d.p, (d.v.map V.int).length + 1, rfl, by omega, by rw [hvl]; omega, c2.hs.box, fun d3 H3 hd3 e3 => ?_⟩
    have c3 := c2.exB e3
    refine ⟨by show 4 ≤ sizeLine; decide, fun l hl => ?_⟩
    have c4 := c3.ex (Ex.new hl (o := .lst [V.int 0, .int ((d.v.map V.int).length : Nat), .int (d2 : Nat), .int (d3 : Nat)]))
    obtain ⟨g, s', hbx, _⟩ := c3.hs.box
    have lp : l ≠ d.p := fun z => by rw [z, hbx] at hl; cases hl
    refine ⟨d.p, l, _, rfl, c4.hs.box, upd_same, lp, by show 1 ≤ 4; decide, by show 4 ≤ 1000; decide, fun v H5 hv e5 => gName_of ?_⟩
    obtain ⟨b, rfl⟩ : ∃ b : Nat, v = .int (b : Int) := by
      rcases List.mem_cons.mp hv with z | hv
      · exact ⟨0, z⟩
      · rcases List.mem_cons.mp hv with z | hv
        · exact ⟨_, z⟩
        · rcases List.mem_cons.mp hv with z | hv
          · exact ⟨_, z⟩
          · rcases List.mem_cons.mp hv with z | hv
            · exact ⟨_, z⟩
            · cases hv
    have c5 := (c4.exB e5).set (i := 9) (v := some (.int (b : Int))) (by decide)
    have h9 : (σ.set 9 (some (V.int (b : Int))))[9]? = some (some (.int (b : Int))) := sl_eq (by rw [c.len]; decide)
    try dsimp only
    refine asg_of (q_stay (b := b) c5.len c5.v4 h9 c5.hq c5.pr (by omega) fun q' H6 acc hq' e6 hq6 hp6 => gName_of ?_)
    try dsimp only
    have c6 := c5.ex e6
    have w9 : ((σ.set 9 (some (V.int (b : Int)))).set 4 (some (.ref q')))[9]? = some (some (.int (b : Int))) := sl_ne h9 (by decide)
    have w1 : ((σ.set 9 (some (V.int (b : Int)))).set 4 (some (.ref q')))[1]? = some (some (.ref d.p)) := sl_ne c5.v1 (by decide)
    have w3 : ((σ.set 9 (some (V.int (b : Int)))).set 4 (some (.ref q')))[3]? = some (some d.u) := sl_ne c5.v3 (by decide)
    have qr : q' ≠ d.r := fun z => by rw [z, c5.hr] at hq'; cases hq'
    have qp : q' ≠ d.p := fun z => by
      obtain ⟨g, s', hb, _⟩ := c5.hs.box
      rw [z, hb] at hq'; cases hq'
    refine ⟨.ref d.p, w1, d.p, 2, rfl, by decide, by decide, c6.hs.box, fun d7 H7 hd7 e7 => ⟨rfl, _, rfl, ?_⟩⟩
    have c7 := c6.exB e7
    have hq7 : H7 q' = some (.lst acc) := e7.2 _ _ qp hq6
    have hp7 : PrT H7 (gone b d.S) acc := Stp.prT c6.hs (c6.hs.exB e7) hp6
    refine (fun (fin : ∀ (u' : V) (H8 : Hp), Ex H7 H8 → StT H8 d.v.length d.la (stay d.L b) u' → _) => ite2
        (fun _ => ⟨_, w3, _, w9, _, _, _, d.u, b, rfl, c7.st.h, by omega, fun u' H8 e8 h8 => fin u' H8 e8 h8⟩)
        (fun _ => ⟨_, w9, _, w3, _, _, _, d.u, rfl, c7.st, by omega, fun uh H8 e8 h8 => ⟨_, _, _, uh, b, rfl, h8, by omega, fun u' H9 e9 h9 => fin u' H9 (e8.trans e9) h9⟩⟩)) ?_
    intro u' H8 e8 h8
    have c8 := c7.ex e8
    refine gName_of ?_
    try dsimp only
    have x7 : (((σ.set 9 (some (V.int (b : Int)))).set 4 (some (.ref q'))).set 3 (some u'))[7]? = some (some (.ref d.r)) := sl_ne (sl_ne c5.v7 (by decide)) (by decide)
    have x9 : (((σ.set 9 (some (V.int (b : Int)))).set 4 (some (.ref q'))).set 3 (some u'))[9]? = some (some (.int (b : Int))) := sl_ne w9 (by decide)
    refine ⟨_, x7, .inl ⟨rfl, _, SqL.of c8.hr⟩, _, x9, by show 2 ≤ sizeLine; decide, fun t ht => ?_⟩
    have e9 := Ex.new ht (o := .tup [V.non, .int (b : Int)])
    have c9 := c8.ex e9
    have zl : d.zs.length = d.R.length := (Paired.length c.rw).symm
    have zi := n.ri
    refine ⟨d.r, d.zs, .ref t, rfl, rfl, c9.hr, Nat.lt_of_le_of_lt (show d.zs.length ≤ 100 by omega) (by decide), ?_⟩
    have cb := c9.bend (R' := d.R ++ [(none, (b : Int))]) (ys := d.zs ++ [.ref t]) (Paired.app c9.rw (.cons ⟨t, rfl, upd_same⟩ .nil))
    have tup : ∀ {x : Addr} {ys : List V} {H' : Hp}, H' x = some (.tup ys) → H' d.r = some (.lst d.zs) → upd H' d.r (.lst (d.zs ++ [V.ref t])) x = some (.tup ys) := fun {x ys H'} h1 h2 => by
      rw [upd_ne (fun z => by rw [z, h2] at h1; cases h1)]
      exact h1
    have go := D9.gone n b
    refine kk _ _ ⟨{ d with f := d.f' b, q := q', xs := acc, u := u', R := d.R ++ [(none, (b : Int))], zs := d.zs ++ [.ref t] }, ?_, n.go (b := b) rfl rfl rfl rfl rfl, hi⟩
    have eS : D9.S { d with f := d.f' b, q := q', xs := acc, u := u', R := d.R ++ [(none, (b : Int))], zs := d.zs ++ [.ref t] } = gone b d.S := go.2.symm
    have eL : D9.L { d with f := d.f' b, q := q', xs := acc, u := u', R := d.R ++ [(none, (b : Int))], zs := d.zs ++ [.ref t] } = stay d.L b := by
      unfold D9.L
      rw [stay_map]
      exact congrArg (List.map (spn d.v)) eS
    refine ⟨by rw [List.length_set, List.length_set]; exact c5.len, sl_ne (sl_ne c5.v0 (by decide)) (by decide), sl_ne (sl_ne c5.v1 (by decide)) (by decide), sl_ne (sl_ne c5.v2 (by decide)) (by decide), sl_eq (by rw [List.length_set, c5.len]; decide), sl_ne (sl_eq (by rw [c5.len]; decide)) (by decide), sl_ne (sl_ne c5.v5 (by decide)) (by decide), sl_ne (sl_ne c5.v6 (by decide)) (by decide), x7,
      cb.hs, cb.tU, c.nTU, ?_, ?_, ?_, cb.hz, upd_same, cb.rw, qr, c.zr, c.rp, qp, c.zp, c.ar⟩
    · rw [eL]
      obtain ⟨x, y, ws, h0, h1, h2, h3⟩ := h8.ex e9
      exact ⟨x, y, ws, h0, tup h1 c9.hr, tup h2 c9.hr, Paired.mapP h3 fun _ _ ⟨b, h1, h2⟩ => ⟨b, h1, tup h2 c9.hr⟩⟩
    · show upd _ d.r _ q' = _
      rw [upd_ne qr]
      exact (e8.trans e9) _ _ hq7
    · rw [eS]
      exact Paired.mapP (hp7.ex (e8.trans e9)) fun _ _ ⟨b, h1, h2⟩ => ⟨b, h1, tup h2 c9.hr⟩
  · have hvl : (d.v.map V.int).length = d.v.length := List.length_map ..
    obtain ⟨b, hbl, hb2, hb3⟩ : ∃ b : Nat, (∀ m, d.la = some m → m < b) ∧ b ≤ 5 * i + 1 ∧ (∀ {Q : VK} {Hx : Hp}, Q (.int (b : Int)) Hx → tIf (tTest (tIsN (tVar 6))) (tC (.int 0)) (tOp (rI0 fun i j => .int (i + j)) (tVar 6) (tC (.int 1))) σ Hx Q) := by
      have v6 := c.v6
      have lab := n.lab
      cases hla : d.la with
      | none =>
        rw [hla] at v6
        exact ⟨0, (fun m z => nomatch z), by omega, fun {Q Hx} q => ⟨_, v6, _, rfl, ite2 (fun _ => q) fun z => absurd rfl z⟩⟩
      | some m =>
        rw [hla] at v6
        have := lab m hla
        exact ⟨m + 1, (fun m' z => by cases z; omega), by omega, fun {Q Hx} q => ⟨_, v6, _, rfl, ite2 (fun z => nomatch z) fun _ => ⟨_, v6, _, _, rfl, rfl, q⟩⟩⟩
    refine par_of (cons_of (op_of (hb3 ?_)))
    refine ⟨.ref d.p, c1.v1, d.p, 4, rfl, by decide, by decide, c1.hs.box, fun d2 H2 hd2 e2 => ⟨_, _, rfl, rfl, ?_⟩⟩
    have c2 := c1.exB e2
    refine ⟨.ref d.p, c2.v1, .ref d.p, c2.v1, d.p, 9, rfl, by decide, by decide, c2.hs.box, fun d3 H3 hd3 e3 => ⟨_, _, rfl, rfl, _, _, rfl, rfl, ⟨by decide, by decide, by decide⟩, _, _, rfl, rfl, ⟨by decide, by decide, by decide⟩, _, _, rfl, rfl, by show 3 ≤ sizeLine; decide, fun l hl => ?_⟩⟩
    have c3 := c2.exB e3
    have c4 := c3.ex (Ex.new hl (o := .lst [V.int ((d3 : Nat) - 4), .int (10 ^ (6 : Int).toNat), .int (0 - 10 ^ (6 : Int).toNat)]))
    have lp : l ≠ d.p := fun z => by
      obtain ⟨g, s', hbx, _⟩ := c3.hs.box
      rw [z, hbx] at hl; cases hl
    refine ⟨d.p, l, _, rfl, c4.hs.box, upd_same, lp, by show 1 ≤ 3; decide, by show 3 ≤ 1000; decide, fun v H5 hv e5 => ⟨_, _, rfl, ?_⟩⟩
    obtain ⟨x, rfl, x1, x2⟩ : ∃ x : Int, v = .int x ∧ -1000000 ≤ x ∧ x ≤ 1000000 := by
      rcases List.mem_cons.mp hv with z | hv
      · exact ⟨_, z, by omega, by omega⟩
      · rcases List.mem_cons.mp hv with z | hv
        · exact ⟨_, z, by decide, by decide⟩
        · rcases List.mem_cons.mp hv with z | hv
          · exact ⟨_, z, by decide, by decide⟩
          · cases hv
    have est : ((b : Nat) : Int) + (d2 : Nat) = ((b + d2 : Nat) : Int) := by omega
    dsimp only
    rw [est]
    generalize hst : b + d2 = stp
    have c5 := ((c4.exB e5).set (i := 10) (v := some (.int (stp : Int))) (by decide)).set (i := 11) (v := some (.int x)) (by decide)
    have h11 : ((σ.set 10 (some (V.int (stp : Int)))).set 11 (some (.int x)))[11]? = some (some (.int x)) := sl_eq (by rw [List.length_set, c.len]; decide)
    have h10 : ((σ.set 10 (some (V.int (stp : Int)))).set 11 (some (.int x)))[10]? = some (some (.int (stp : Int))) := sl_ne (sl_eq (by rw [c.len]; decide)) (by decide)
    generalize hsa : (σ.set 10 (some (V.int (stp : Int)))).set 11 (some (.int x)) = σa at c5 h11 h10
    refine ⟨_, c5.v4, _, c5.v2, .ref d.z, c5.v5, d.z, _, rfl, .inl (SqL.of c5.hz), d.k, d.f, d.v.length, d.q, d.xs, (by show [V.ref d.q, .int (d.k : Int), .int (((d.v.map V.int).length : Nat) : Int)] = _; rw [hvl]), n.k2, n.k8, n.fl, by omega, c5.hq, c5.pr, fun q' acc H6 hq' e6 hq6 hp6 => ?_⟩
    have c6 := c5.ex e6
    refine ⟨.ref d.z, c5.v5, _, h11, by show 1 ≤ sizeLine; decide, fun b1 hb1 => ?_⟩
    have e7 := Ex.new hb1 (o := .lst [V.int x])
    have c7 := c6.ex e7
    refine ⟨d.z, b1, _, _, rfl, rfl, c7.hz, upd_same, Nat.le_trans (show (d.v.map V.int).length + 1 ≤ 100 by rw [hvl]; omega) (by decide), fun z' hz' => ?_⟩
    have e8 := Ex.new hz' (o := .lst (d.v.map V.int ++ [V.int x]))
    have c8 := c7.ex e8
    refine ⟨_, h10, _, _, _, rfl, ?_⟩
    have hz8 : (upd (upd H6 b1 (.lst [V.int x])) z' (.lst (d.v.map V.int ++ [V.int x]))) z' = some (.lst ((d.v ++ [x]).map V.int)) := by
      rw [upd_same, List.map_append]
      rfl
    have hq8 := (e7.trans e8) _ _ hq6
    have hp8 := hp6.ex (e7.trans e8)
    have bx := c5.hs.box
    have qr : q' ≠ d.r := fun z => by rw [z, c5.hr] at hq'; cases hq'
    have qp : q' ≠ d.p := fun z => by
      obtain ⟨g, s', hb, _⟩ := c5.hs.box
      rw [z, hb] at hq'; cases hq'
    have zr : z' ≠ d.r := fun z => by rw [z, c7.hr] at hz'; cases hz'
    have zp : z' ≠ d.p := fun z => by
      obtain ⟨g, s', hb, _⟩ := c7.hs.box
      rw [z, hb] at hz'; cases hz'
    have sl5 := c5.len
    have w1 : (((σa.set 4 (some (.ref q'))).set 5 (some (.ref z'))).set 6 (some (.int (stp : Int))))[1]? = some (some (.ref d.p)) := sl_ne (sl_ne (sl_ne c5.v1 (by decide)) (by decide)) (by decide)
    have w2 : (((σa.set 4 (some (.ref q'))).set 5 (some (.ref z'))).set 6 (some (.int (stp : Int))))[2]? = some (some (.int (d.k : Int))) := sl_ne (sl_ne (sl_ne c5.v2 (by decide)) (by decide)) (by decide)
    have w3 : (((σa.set 4 (some (.ref q'))).set 5 (some (.ref z'))).set 6 (some (.int (stp : Int))))[3]? = some (some d.u) := sl_ne (sl_ne (sl_ne c5.v3 (by decide)) (by decide)) (by decide)
    have w10 : (((σa.set 4 (some (.ref q'))).set 5 (some (.ref z'))).set 6 (some (.int (stp : Int))))[10]? = some (some (.int (stp : Int))) := sl_ne (sl_ne (sl_ne h10 (by decide)) (by decide)) (by decide)
    have w11 : (((σa.set 4 (some (.ref q'))).set 5 (some (.ref z'))).set 6 (some (.int (stp : Int))))[11]? = some (some (.int x)) := sl_ne (sl_ne (sl_ne h11 (by decide)) (by decide)) (by decide)
    refine ⟨.ref d.p, w1, d.p, 2, rfl, by decide, by decide, c8.hs.box, fun d9 H9 hd9 e9 => ⟨rfl, _, rfl, ?_⟩⟩
    have c9 := c8.exB e9
    have hq9 := e9.2 _ _ qp hq8
    have hz9 := e9.2 _ _ zp hz8
    have hp9 : PrT H9 (shp d.k d.f (d.v.length + 1)) acc := Stp.prT c8.hs (c8.hs.exB e9) hp8
    have lam : ∀ m, d.la = some m → m < stp := fun m hm => by have := hbl m hm; omega
    have vok := vok_snoc n.vok (by omega) x1 x2
    have rl := rl_lay n vok
    refine (fun (fin : ∀ (u' : V) (HA : Hp), Ex H9 HA → StT HA (d.v.length + 1) (some stp) ((shp d.k d.f (d.v.length + 1)).map (spn (d.v ++ [x]))) u' → _) => ite2
        (fun _ => ⟨_, w3, _, w2, _, w10, _, w11, _, _, _, _, d.u, d.k, stp, x, rfl, c9.st.h, by omega, n.k2, n.k8, lam, x1, x2, rl, fun u' HA eA hA => fin u' HA eA hA⟩)
        (fun _ => ⟨_, w11, _, w10, _, w2, _, w3, _, _, _, d.u, rfl, c9.st, by omega, fun uh HA eA hA => ⟨_, _, _, _, uh, d.k, stp, x, rfl, hA, by omega, n.k2, n.k8, lam, x1, x2, rl, fun u' HB eB hB => fin u' HB (eA.trans eB) hB⟩⟩)) ?_
    intro u' HA eA hA
    have cA := c9.ex eA
    refine gName_of ?_
    try dsimp only
    have y7 : ((((σa.set 4 (some (.ref q'))).set 5 (some (.ref z'))).set 6 (some (.int (stp : Int)))).set 3 (some u'))[7]? = some (some (.ref d.r)) := sl_ne (sl_ne (sl_ne (sl_ne c5.v7 (by decide)) (by decide)) (by decide)) (by decide)
    refine ⟨_, y7, .inl ⟨rfl, _, SqL.of cA.hr⟩, _, sl_ne w10 (by decide), _, sl_ne w11 (by decide), by show 2 ≤ sizeLine; decide, fun t ht => ?_⟩
    have eB := Ex.new ht (o := .tup [V.int (stp : Int), .int x])
    have cB := cA.ex eB
    have zl : d.zs.length = d.R.length := (Paired.length c.rw).symm
    have zi := n.ri
    refine ⟨d.r, d.zs, .ref t, rfl, rfl, cB.hr, Nat.lt_of_le_of_lt (show d.zs.length ≤ 100 by omega) (by decide), ?_⟩
    have cb := cB.bend (R' := d.R ++ [(some stp, x)]) (ys := d.zs ++ [.ref t]) (Paired.app cB.rw (.cons ⟨t, rfl, upd_same⟩ .nil))
    have tup : ∀ {y : Addr} {ys : List V} {H' : Hp}, H' y = some (.tup ys) → H' d.r = some (.lst d.zs) → upd H' d.r (.lst (d.zs ++ [V.ref t])) y = some (.tup ys) := fun {y ys H'} h1 h2 => by
      rw [upd_ne (fun z => by rw [z, h2] at h1; cases h1)]
      exact h1
    have hv1 : (d.v ++ [x]).length = d.v.length + 1 := by rw [List.length_append, List.length_singleton]
    refine kk _ _ ⟨{ d with v := d.v ++ [x], la := some stp, q := q', z := z', xs := acc, u := u', R := d.R ++ [(some stp, x)], zs := d.zs ++ [.ref t] }, ?_, n.lay hi x1 x2 lam (by omega) rfl rfl rfl rfl rfl, hi⟩
    have eS : D9.S { d with v := d.v ++ [x], la := some stp, q := q', z := z', xs := acc, u := u', R := d.R ++ [(some stp, x)], zs := d.zs ++ [.ref t] } = shp d.k d.f (d.v.length + 1) := by
      unfold D9.S
      dsimp only
      rw [hv1]
    have eL : D9.L { d with v := d.v ++ [x], la := some stp, q := q', z := z', xs := acc, u := u', R := d.R ++ [(some stp, x)], zs := d.zs ++ [.ref t] } = (shp d.k d.f (d.v.length + 1)).map (spn (d.v ++ [x])) := by
      unfold D9.L
      rw [eS]
    refine ⟨by rw [List.length_set, List.length_set, List.length_set, List.length_set]; exact sl5, sl_ne (sl_ne (sl_ne (sl_ne c5.v0 (by decide)) (by decide)) (by decide)) (by decide), sl_ne w1 (by decide), sl_ne w2 (by decide), sl_eq (by rw [List.length_set, List.length_set, List.length_set, sl5]; decide), sl_ne (sl_ne (sl_ne (sl_eq (by rw [sl5]; decide)) (by decide)) (by decide)) (by decide), sl_ne (sl_ne (sl_eq (by rw [List.length_set, sl5]; decide)) (by decide)) (by decide), sl_ne (sl_eq (by rw [List.length_set, List.length_set, sl5]; decide)) (by decide), y7,
      cb.hs, cb.tU, c.nTU, ?_, ?_, ?_, ?_, upd_same, cb.rw, qr, zr, c.rp, qp, zp, c.ar⟩
    · rw [eL]
      dsimp only
      rw [hv1]
      obtain ⟨y, y', ws, h0, h1, h2, h3⟩ := hA.ex eB
      exact ⟨y, y', ws, h0, tup h1 cB.hr, tup h2 cB.hr, Paired.mapP h3 fun _ _ ⟨b, h1, h2⟩ => ⟨b, h1, tup h2 cB.hr⟩⟩
    · show upd _ d.r _ q' = _
      rw [upd_ne qr]
      exact (eA.trans eB) _ _ hq9
    · rw [eS]
      exact Paired.mapP (hp9.ex (eA.trans eB)) fun _ _ ⟨b, h1, h2⟩ => ⟨b, h1, tup h2 cB.hr⟩
    · show upd _ d.r _ z' = _
      rw [upd_ne zr]
      exact (eA.trans eB) _ _ hz9
end
end K09
set_option Elab.async false
set_option linter.all false
set_option maxRecDepth 100000
set_option maxHeartbeats 4000000
namespace Pu
open PySem PySem.Spec PyProof.Rows L2 GxR
theorem Sm.intZ {a : Int} (h : a.natAbs ≤ 1000000000) : Sm 0 0 (.int a) := by
  refine ⟨Nat.le_refl _, Nat.le_refl _, ?_, ?_, rfl⟩
  · show decide _ = true
    exact decide_eq_true (PyData.shown_int_le (Nat.lt_of_le_of_lt h (by decide)))
  · show decide _ = true
    refine decide_eq_true ?_
    exact Nat.lt_of_lt_of_le (PySem.Flt.log2_lt_of (by decide) (Nat.lt_of_le_of_lt h (by decide : 1000000000 < 2 ^ 40))) (by decide)
end Pu
namespace K09
open PySem PySem.Spec PyProof.Rows L2 GxR Pu Evl Sh Sv
def dS5 (s : S5) : PyData := .tuple [.int (s.f : Int), .int (s.n : Int), .int s.w, .int s.lo, .int s.hi]
def nonD : Option Nat → PyData
  | none => .none
  | some n => .int (n : Int)
def dSto (l : Nat) (la : Option Nat) (L : List S5) : PyData := .tuple [.int (l : Int), nonD la, .tuple (L.map dS5)]
section
variable {K : PySem.W.Frag} {H : Hp}
theorem dpS5 {s : S5} {v : V} (h : SpT H s v) : Dp K H v (dS5 s) := by
  obtain ⟨b, rfl, hb⟩ := h
  exact .tup (SqT.of hb) (.cons (.int _) (.cons (.int _) (.cons (.int _) (.cons (.int _) (.cons (.int _) .nil)))))
theorem dpNon (o : Option Nat) : Dp K H (nonV o) (nonD o) := by
  cases o with
  | none => exact .non
  | some n => exact .int _
theorem dpSpans : ∀ {L : List S5} {xs : List V}, Paired (SpT H) L xs → DpAll K H xs (L.map dS5)
  | _, _, .nil => .nil
  | _, _, .cons r t => .cons (dpS5 r) (dpSpans t)
theorem dpSto {l : Nat} {la : Option Nat} {L : List S5} {v : V} (h : StT H l la L v) : Dp K H v (dSto l la L) := by
  obtain ⟨a, e, xs, rfl, h1, h2, h3⟩ := h
  exact .tup (SqT.of h1) (.cons (.int _) (.cons (dpNon la) (.cons (.tup (SqT.of h2) (dpSpans h3)) .nil)))
end
theorem sm_spn {v : List Int} {p : Nat × Nat} (hv : Vok v) (h : p.1 + p.2 ≤ v.length) (h1 : 1 ≤ p.2) : Sm 1 5 (dS5 (spn v p)) := by
  have ne := sl_ne h h1
  have hl := sl_len h
  have b1 := hv.2 _ (sl_mem (lmin_spec ne).1)
  have b2 := hv.2 _ (sl_mem (lmax_spec ne).1)
  have s1 := sum_ge (lo := -1000000) fun y hy => (hv.2 y (sl_mem (v := v) (p := p) hy)).1
  have s2 := sum_le (hi := 1000000) fun y hy => (hv.2 y (sl_mem (v := v) (p := p) hy)).2
  have vl := hv.1
  rw [hl] at s1 s2
  refine Sm.tup (c := 5) (m := 0) (fun d hd => ?_) (Nat.le_refl _)
  rcases List.mem_cons.mp hd with z | hd
  · rw [z]; exact Sm.intZ (by show (p.1 : Int).natAbs ≤ _; omega)
  rcases List.mem_cons.mp hd with z | hd
  · rw [z]; exact Sm.intZ (by show (p.2 : Int).natAbs ≤ _; omega)
  rcases List.mem_cons.mp hd with z | hd
  · rw [z]; exact Sm.intZ (by show ((sl v p).sum).natAbs ≤ _; omega)
  rcases List.mem_cons.mp hd with z | hd
  · rw [z]; exact Sm.intZ (by show (lmin (sl v p)).natAbs ≤ _; omega)
  rcases List.mem_cons.mp hd with z | hd
  · rw [z]; exact Sm.intZ (by show (lmax (sl v p)).natAbs ≤ _; omega)
  · cases hd
theorem Num.mem {d : D9} {i : Nat} (n : Num d i) {p : Nat × Nat} (hp : p ∈ d.S) : p.1 + p.2 ≤ d.v.length ∧ 1 ≤ p.2 := by
  have := shp_mem n.k2 n.fl hp
  exact ⟨this.2.1, this.2.2⟩
theorem sm_store {d : D9} {i : Nat} (n : Num d i) (hi : i ≤ 60) : Sm 3 18003 (dSto d.v.length d.la d.L) := by
  have li := n.li
  have sl := D9.Sl n
  have ll : d.L.length = d.S.length := D9.Ll
  refine Sm.tup (c := 3) (m := 6000) (n := 2) (fun e he => ?_) (Nat.le_refl _)
  rcases List.mem_cons.mp he with z | he
  · rw [z]; exact (Sm.intZ (by omega)).mono (by decide) (by decide)
  rcases List.mem_cons.mp he with z | he
  · rw [z]
    cases hla : d.la with
    | none => exact Sm.none.mono (by decide) (by decide)
    | some m =>
      have := n.lab m hla
      exact (Sm.intZ (by omega)).mono (by decide) (by decide)
  rcases List.mem_cons.mp he with z | he
  · rw [z]
    refine Sm.tup (c := 1000) (m := 5) (n := 1) (fun y hy => ?_) (by rw [List.length_map]; omega)
    obtain ⟨s, hs, rfl⟩ := List.mem_map.mp hy
    obtain ⟨p, hp, rfl⟩ := List.mem_map.mp hs
    exact sm_spn n.vok (n.mem hp).1 (n.mem hp).2
  · cases he
theorem D9.LS {d : D9} : (d.L.map fun s => (s.f, s.n)) = d.S := by
  unfold D9.L
  rw [List.map_map]
  exact List.map_id' d.S
end K09
set_option Elab.async false
set_option linter.all false
set_option maxRecDepth 100000
set_option maxHeartbeats 4000000
namespace K09
open PySem PySem.Spec PyProof.Rows L2 GxR Pu Evl Sh Sv
section
variable {P : Program} {w : World} {K : PySem.W.Frag} {mg : Str → Option Value} {base : Heap} {T U a fa : Addr} {ns : List Int} {cdv : Value} {s0 : Shared} {H0 : Hp} {d : D9} {σ : L2.St} {H H' : Hp} {i : Nat}
variable {fLS fSO : Addr} {dLS dSO : FuncData}
theorem rne_same (s : Str) : V.bl (!decide (V.str s = V.str s)) = V.bl false := by simp
theorem req_same (s : Str) : V.bl (decide (V.str s = V.str s)) = V.bl true := by simp
theorem ti_same (hr : Room 9 (LX P w K mg base fa cdv s0 H0).A) (G : Mg mg) (C1 : Cal P w K mg base "_law_store" ["_law_laid_here", "_law_last", "_law_spans", "_law_values"] sLawStore 1 spLS fLS dLS) (C2 : Cal P w K mg base "shape_of" ["store"] sShapeOf 1 (spShapeOf K) fSO dSO) :
    Ti (LX P w K mg base fa cdv s0 H0) (forS 2) (B2 K T U a ns) (B2 K T U a ns) := by
  have hu : (LX P w K mg base fa cdv s0 H0).A.units + 64 < cLine := hr.units
  have hg : (LX P w K mg base fa cdv s0 H0).A.guards = some [] := rfl
  refine ⟨_, (ps_if (PW.pt (pw_or (pt_cmpR op_ne (pe_callB (cr_repr hu hg) (by rfl) G.repr boot_repr (pa_cons (pv 3) pa_nil)) (pe_callB (cr_repr hu hg) (by rfl) G.repr boot_repr (pa_cons (pe_call C1.ok (hr.mono (by decide)) (by rfl) C1.ns.mg C1.ns.fn.kp C1.ns.bd .nil pass0 (pa_cons (pe_callB call_len_seq (by rfl) G.len PySem.boot_len (pa_cons (pv 5) pa_nil)) (pa_cons (pv 6) (pa_cons (pv 4) (pa_cons (pv 5) pa_nil))))) pa_nil)) (nomark _)) (pw_or1 (pt_cmpR op_ne (pe_callB (cr_repr hu hg) (by rfl) G.repr boot_repr (pa_cons (pe_call C2.ok (hr.mono (by decide)) (by rfl) C2.ns.mg C2.ns.fn.kp C2.ns.bd .nil pass0 (pa_cons (pv 3) pa_nil)) pa_nil)) (pe_callB (cr_repr hu hg) (by rfl) G.repr boot_repr (pa_cons (pe_callTy (T := "tuple") call_tuple_of (by rfl) G.tuple (by decide +kernel) (pa_cons (pv 4) pa_nil)) pa_nil)) (nomark _))))) (pss_one (ps_ret pe_bl)) pss_nil), fun i D σ H hA kk => ?_⟩
  obtain ⟨d, c, n, hi⟩ := hA
  have vl := n.li
  have sl := D9.Sl n
  have ll : d.L.length = d.S.length := D9.Ll
  have hvl : (d.v.map V.int).length = d.v.length := List.length_map ..
  have sm := sm_store n (by omega)
  have smS : Sm 2 3000 (dShape d.S) := Sm.shape (by omega) fun p hp => by have := n.mem hp; omega
  refine ⟨_, c.v3, ⟨_, _, rfl, (dpSto c.st), rfl, sm.sh, sm.nd, sm.d60 (by decide), sm.len (by decide), ?_⟩⟩
  refine ⟨.ref d.z, c.v5, d.z, _, rfl, .inl (SqL.of c.hz), _, c.v6, _, c.v4, _, c.v5, d.v.length, d.la, d.q, d.z, d.xs, d.S, d.v, (by show [V.int (((d.v.map V.int).length : Nat) : Int), nonV d.la, .ref d.q, .ref d.z] = _; rw [hvl]), c.hq, c.pr, by omega, c.hz, fun p hp => n.mem hp, fun u' H1 e1 h1 => ⟨_, dSto d.v.length d.la d.L, rfl, (dpSto (show StT H1 d.v.length d.la d.L u' from h1)), rfl, sm.sh, sm.nd, sm.d60 (by decide), sm.len (by decide), ?_⟩⟩
  have c1 := c.ex e1
  refine ⟨rfl, false, rne_same _, ite2 (fun z => nomatch z) fun _ => ?_⟩
  refine ⟨_, c1.v3, _, _, _, d.u, rfl, c1.st.e, by omega, fun q2 xs2 H2 hq2 e2 h2 p2 => ?_⟩
  rw [D9.LS] at p2
  have c2 := c1.ex e2
  refine ⟨_, _, rfl, (dpShape (SqT.of h2) p2.s), rfl, smS.sh, smS.nd, smS.d60 (by decide), smS.len (by decide), ?_⟩
  refine ⟨_, c2.v4, d.q, d.xs, rfl, .inl ⟨SqL.of c2.hq, fun t ht => ?_⟩⟩
  have e3 := Ex.new ht (o := .tup d.xs)
  have c3 := c2.ex e3
  refine ⟨_, _, rfl, (dpShape (SqT.of upd_same) c3.pr.s), rfl, smS.sh, smS.nd, smS.d60 (by decide), smS.len (by decide), ?_⟩
  refine ⟨rfl, false, rne_same _, ite2 (fun z => nomatch z) fun _ => ?_⟩
  exact kk _ _ ⟨d, c3, n, hi⟩
end
end K09
set_option Elab.async false
set_option linter.all false
set_option maxRecDepth 100000
set_option maxHeartbeats 4000000
namespace K09
open PySem PySem.Spec PyProof.Rows L2 GxR Pu Evl Sh Sv
def nL (L : List S5) : PyData := .list (L.map dS5)
theorem nL_shaped (L : List S5) : SeqAt.shaped (nL L) = true := by
  have h1 : ∀ L : List S5, PyData.canLayAll0 (L.map dS5) = true := fun L => by
    induction L with
    | nil => rfl
    | cons x l ih =>
      show (PyData.canLay0 (dS5 x) && PyData.canLayAll0 (l.map dS5)) = true
      rw [ih]
      rfl
  have h2 : ∀ L : List S5, PyData.depthAll (L.map dS5) ≤ 1 := fun L => by
    induction L with
    | nil => exact Nat.zero_le _
    | cons x l ih =>
      show max (PyData.depth (dS5 x)) (PyData.depthAll (l.map dS5)) ≤ 1
      exact Nat.max_le.mpr ⟨Nat.le_refl 1, ih⟩
  unfold SeqAt.shaped
  have h3 : PyData.canLay0 (nL L) = true := h1 L
  have h4 : PyData.depth (nL L) ≤ 64 := Nat.le_trans (Nat.succ_le_succ (h2 L)) (by decide)
  rw [h3, decide_eq_true h4]
  rfl
theorem nL_nil (L : List S5) : PyData.eqv (nL L) (.list []) = L.isEmpty := by cases L <;> rfl
def dOpt : Option S5 → PyData
  | none => .none
  | some s => dS5 s
theorem dpOpt {K : PySem.W.Frag} {H : Hp} {o : Option S5} {v : V} (h : ResO H o v) : Dp K H v (dOpt o) := by
  cases o with
  | none =>
    have : v = .non := h
    subst this
    exact .non
  | some s => exact dpS5 (show SpT H s v from h)
theorem ResO.ex {H H' : Hp} {o : Option S5} {v : V} (h : ResO H o v) (e : Ex H H') : ResO H' o v := by
  cases o with
  | none => exact h
  | some s => exact SpT.ex (show SpT H s v from h) e
section
variable {P : Program} {w : World} {K : PySem.W.Frag} {mg : Str → Option Value} {base : Heap} {T U a fa : Addr} {ns : List Int} {cdv : Value} {s0 : Shared} {H0 : Hp} {d : D9} {σ : L2.St} {H H' : Hp} {i : Nat}
variable {fTake fSW fHa : Addr} {dTake dSW dHa : FuncData}
/-- the spans that have the row -/
theorem q_has {l : Nat} {la : Option Nat} {L : List S5} {u : V} {r : Nat} (len : σ.length = 15) (h3 : σ[3]? = some (some u)) (h12 : σ[12]? = some (some (.int (r : Int)))) (hs : StT H l la L u) (hl : L.length ≤ 2000) {Q : VK}
    (k : ∀ D H' acc, H D = none → Ex H H' → H' D = some (.lst acc) → Paired (SpT H') (L.filter (hasR r)) acc → Q (.ref D) H') :
    tLc (iSeq K (tOp (rIx K) (tVar 3) (tC (.int 2)))) (gName 14) (tTest (tChain (rI0 fun i j => .bl (decide (i ≤ j))) (rI0 fun i j => .bl (decide (i < j))) (tOp (rIx K) (tVar 14) (tC (.int 0))) (tVar 12) (tOp (rI0 fun i j => .int (i + j)) (tOp (rIx K) (tVar 14) (tC (.int 0))) (tOp (rIx K) (tVar 14) (tC (.int 1)))))) (tVar 14) [14] σ H Q := by
  obtain ⟨a, e, xs, rfl, ha, he, hw⟩ := hs
  have hxl : L.length = xs.length := Paired.length hw
  refine ⟨.ref a, h3, .inr (.inl ⟨a, _, _, _, rfl, rfl, SqT.of ha, atI_nat (j := 2) rfl, e, xs, rfl, .inl (SqT.of he), fun J Gd wk hG D hD => ?_⟩)⟩
  refine lc_gen wk (fun m H' acc => (∃ z, H' D = some (.lst z)) ∧ Paired (SpT H') ((L.take m).filter (hasR r)) acc) (by omega) hD (fun m H xs ys acc h r => ?_) ⟨⟨[], upd_same⟩, .nil⟩ hG ?_ ?_
  · exact ⟨⟨ys, upd_same⟩, PairedU r.2 h⟩
  · intro m y Ha Hb acc hi ex yy hR Qy Qn hy hn
    obtain ⟨rfl, hx⟩ := yy
    obtain ⟨s, hs, hp⟩ := Paired.atR hw hx
    obtain ⟨b, rfl, hb⟩ := hp.ex ex
    have tk : (L.take (m + 1)).filter (hasR r) = (L.take m).filter (hasR r) ++ if hasR r s = true then [s] else [] := by
      rw [List.take_add_one, hs, List.filter_append]
      congr 1
      show List.filter _ [s] = _
      rw [List.filter_cons]
      rfl
    have no : hasR r s = false → ∀ H3, Ex Hb H3 → (∃ z, H3 D = some (.lst z)) ∧ Paired (SpT H3) ((L.take (m + 1)).filter (hasR r)) acc := fun z H3 e3 => by
      rw [tk, z]
      obtain ⟨⟨z, hz⟩, h⟩ := hR
      exact ⟨⟨z, e3 _ _ hz⟩, by rw [if_neg (by decide), List.append_nil]; exact Paired.mapP h fun _ _ h => h.ex e3⟩
    refine ⟨wipe1, _, wipe_at (by rw [len]; decide), .inr (.inl ⟨b, _, _, _, rfl, rfl, SqT.of hb, atI_nat (j := 0) rfl, _, wipe_ne h12 (by decide), (s.f : Int), (r : Int), rfl, rfl, _, rfl, ite2 (fun c => ?_) fun c => ?_⟩)⟩
    · refine ⟨_, wipe_at (by rw [len]; decide), .inr (.inl ⟨b, _, _, _, rfl, rfl, SqT.of hb, atI_nat (j := 0) rfl, _, wipe_at (by rw [len]; decide), .inr (.inl ⟨b, _, _, _, rfl, rfl, SqT.of hb, atI_nat (j := 1) rfl, _, _, rfl, rfl, (r : Int), (s.f : Int) + s.n, rfl, rfl, _, rfl, ite2 (fun c2 => ?_) fun c2 => ?_⟩)⟩)⟩
      · have hh : hasR r s = true := by unfold hasR; rw [c, c2]; rfl
        refine ⟨_, wipe_at (by rw [len]; decide), hy _ _ (Ex.refl _) ⟨hR.1, ?_⟩⟩
        rw [tk, hh, if_pos rfl]
        exact Paired.app hR.2 (.cons ⟨b, rfl, hb⟩ .nil)
      · have hh : hasR r s = false := by unfold hasR; rw [Bool.not_eq_true] at c2; rw [c2, Bool.and_false]
        exact hn _ (Ex.refl _) (no hh _ (Ex.refl _))
    · have hh : hasR r s = false := by unfold hasR; rw [Bool.not_eq_true] at c; rw [c, Bool.false_and]
      exact ⟨_, rfl, hn _ (Ex.refl _) (no hh _ (Ex.refl _))⟩
  · intro H4 acc e4 hD4 hR
    rw [← hxl, List.take_length] at hR
    exact k D H4 acc hD e4 hD4 hR.2
theorem ti_row (hr : Room 9 (LX P w K mg base fa cdv s0 H0).A) (G : Mg mg) (C1 : Cal P w K mg base "_law_take" ["_law_box_here", "_law_many"] sTake 1 spTake fTake dTake) (C2 : Cal P w K mg base "span_with" ["store", "row"] sSpanWith 3 spSpanWith fSW dSW) (W2 : KwOk K dSW ["store", "row"] ["row", "store"] (perm [1, 0]) (perm [1, 0]))
    (C3 : Cal P w K mg base "_law_handed" ["_law_store_here"] sLawHanded 1 spLH fHa dHa) : Ti (LX P w K mg base fa cdv s0 H0) (forS 3) (B2 K T U a ns) (B2 K T U a ns) := by
  have hu : (LX P w K mg base fa cdv s0 H0).A.units + 64 < cLine := hr.units
  have hg : (LX P w K mg base fa cdv s0 H0).A.guards = some [] := rfl
  refine ⟨_, (ps_if (pt_cmpR (op_neD hu) (pv 5) (pe_lst pa_nil) (nomark _)) (pss_cons (ps_set (i := 12) scLaw.nd rfl (.inr rfl) (pe_call C1.ok (hr.mono (by decide)) (by rfl) C1.ns.mg C1.ns.fn.kp C1.ns.bd .nil pass0 (pa_cons (pv 1) (pa_cons (pe_callB call_len_seq (by rfl) G.len PySem.boot_len (pa_cons (pv 5) pa_nil)) pa_nil))))
    (pss_cons (ps_setLc (i := 13) (own := [("_law_one", 14)]) (g := gName 14) (te := (tVar 14)) (tt := tTest (tChain (rI0 fun i j => .bl (decide (i ≤ j))) (rI0 fun i j => .bl (decide (i < j))) (tOp (rIx K) (tVar 14) (tC (.int 0))) (tVar 12) (tOp (rI0 fun i j => .int (i + j)) (tOp (rIx K) (tVar 14) (tC (.int 0))) (tOp (rIx K) (tVar 14) (tC (.int 1)))))) (by rfl) scLaw.nd rfl rfl (sw_true rfl rfl rfl (by decide +kernel)) (pi_seq (pe_ix ix_seq (pv 3) pe_int (fun _ _ => rfl))) (blkOk_by (own := [("_law_one", 14)]) (N := lawN) (sc := defScope sLaw) (by decide +kernel)) (fun _ _ _ _ _ => (pg_name (i := 14) scLaw.nd rfl (.inl rfl))) (fun _ _ _ _ _ => pts_one (pt_chain op_le op_lt (pe_ix ix_seq (pv 14) pe_int (fun _ _ => rfl)) (pv 12) (pe_op op_add (pe_ix ix_seq (pv 14) pe_int (fun _ _ => rfl)) (pe_ix ix_seq (pv 14) pe_int (fun _ _ => rfl))))) (fun _ _ _ _ _ => (pv 14)))
    (pss_one (ps_if (pt_cmpR op_ne (pe_callB (cr_repr hu hg) (by rfl) G.repr boot_repr (pa_cons (pe_lst (pa_cons (pe_call C2.ok (hr.mono (by decide)) (by rfl) C2.ns.mg C2.ns.fn.kp C2.ns.bd .nil pass0 (pa_cons (pv 3) (pa_cons (pv 12) pa_nil))) (pa_cons (pe_callW C2.ok (hr.mono (by decide)) (by rfl) C2.ns.mg C2.ns.fn.kp W2 pass0 (pk_cons (pv 12) (pk_cons (pe_call C3.ok (hr.mono (by decide)) (by rfl) C3.ns.mg C3.ns.fn.kp C3.ns.bd .nil pass0 (pa_cons (pv 3) pa_nil)) pk_nil))) pa_nil))) pa_nil)) (pe_callB (cr_repr hu hg) (by rfl) G.repr boot_repr (pa_cons (pe_op op_rep (pe_lst (pa_cons (pe_ifExp (pt_cmpR (op_neD hu) (pv 13) (pe_lst pa_nil) (nomark _)) (pe_ix ix_seq (pv 13) pe_int (fun _ _ => rfl)) pe_non) pa_nil)) pe_int) pa_nil)) (nomark _)) (pss_one (ps_ret pe_bl)) pss_nil)))) pss_nil), fun i D σ H hA kk => ?_⟩
  obtain ⟨d, c, n, hi⟩ := hA
  have vl := n.li
  have sl := D9.Sl n
  have ll : d.L.length = d.S.length := D9.Ll
  have hvl : (d.v.map V.int).length = d.v.length := List.length_map ..
  refine ⟨_, c.v5, by show 0 ≤ sizeLine; decide, fun q hq => ?_⟩
  have c1 := c.ex (Ex.new hq (o := .lst []))
  refine ⟨dIntL d.v, .list [], dpIntL (SqL.of c1.hz), .lst (SqL.of upd_same) .nil, intL_shaped _, rfl, !d.v.isEmpty, by rw [intL_nil], ?_⟩
  by_cases hv : d.v = []
  · rw [hv]
    exact kk _ _ ⟨d, c1, n, hi⟩
  have l1 : 1 ≤ d.v.length := by
    cases h : d.v with
    | nil => exact absurd h hv
    | cons _ _ => exact Nat.succ_le_succ (Nat.zero_le _)
  have he : d.v.isEmpty = false := by rw [Bool.eq_false_iff]; intro z; exact hv (List.isEmpty_iff.mp z)
  rw [he]
  refine iteT ?_
  refine ⟨.ref d.p, c1.v1, .ref d.z, c1.v5, d.z, _, rfl, .inl (SqL.of c1.hz), d.p, d.v.length, (by show [V.ref d.p, .int (((d.v.map V.int).length : Nat) : Int)] = _; rw [hvl]), l1, by omega, c1.hs.box, fun r H2 hr2 e2 => gName_of ?_⟩
  try dsimp only
  have c2 := (c1.exB e2).set (i := 12) (v := some (.int (r : Int))) (by decide)
  have h12 : (σ.set 12 (some (V.int (r : Int))))[12]? = some (some (.int (r : Int))) := sl_eq (by rw [c.len]; decide)
  generalize hsa : σ.set 12 (some (V.int (r : Int))) = σa at c2 h12
  refine asg_of (q_has c2.len c2.v3 h12 c2.st (by omega) fun D3 H3 acc hD3 e3 h3 p3 => gName_of ?_)
  try dsimp only
  have c3 := (c2.ex e3).set (i := 13) (v := some (.ref D3)) (by decide)
  have h13 : (σa.set 13 (some (V.ref D3)))[13]? = some (some (.ref D3)) := sl_eq (by rw [c2.len]; decide)
  have h12' : (σa.set 13 (some (V.ref D3)))[12]? = some (some (.int (r : Int))) := sl_ne h12 (by decide)
  generalize hsb : σa.set 13 (some (V.ref D3)) = σb at c3 h12' h13
  refine ⟨_, c3.v3, _, h12', _, _, _, d.u, r, rfl, c3.st.h, by omega, hr2, fun u1 H4 e4 r4 => ?_⟩
  have c4 := c3.ex e4
  refine ⟨_, h12', _, c4.v3, _, _, _, d.u, rfl, c4.st, by omega, fun uh H5 e5 h5 => ⟨_, _, _, uh, r, rfl, h5, by omega, hr2, fun u2 H6 e6 r6 => ?_⟩⟩
  have e56 := e5.trans e6
  refine ⟨by show 2 ≤ sizeLine; decide, fun q7 hq7 => ?_⟩
  have e7 := Ex.new hq7 (o := .lst [u1, u2])
  have sm0 : Sm 1 5 (dOpt (d.L.find? (hasR r))) := by
    cases hf : d.L.find? (hasR r) with
    | none => exact Sm.none.mono (by decide) (by decide)
    | some s =>
      obtain ⟨p, hp, rfl⟩ := List.mem_map.mp (List.mem_of_find?_eq_some hf)
      exact sm_spn n.vok (n.mem hp).1 (n.mem hp).2
  have sm2 : Sm 2 12 (.list [dOpt (d.L.find? (hasR r)), dOpt (d.L.find? (hasR r))]) := Sm.two sm0 sm0
  refine ⟨_, .list [dOpt (d.L.find? (hasR r)), dOpt (d.L.find? (hasR r))], rfl, .lst (SqL.of upd_same) (.cons (dpOpt (r4.ex (e56.trans e7))) (.cons (dpOpt (r6.ex e7)) .nil)), rfl, sm2.sh, sm2.nd, sm2.d60 (by decide), sm2.len (by decide), ?_⟩
  have e47 := e56.trans e7
  have c7 := c4.ex e47
  have p7 := Paired.mapP p3 fun _ _ h => SpT.ex h (e4.trans e47)
  have h37 := (e4.trans e47) _ _ h3
  refine ⟨_, h13, by show 0 ≤ sizeLine; decide, fun q8 hq8 => ?_⟩
  have e8 := Ex.new hq8 (o := .lst [])
  have c8 := c7.ex e8
  have p8 := Paired.mapP p7 fun _ _ h => SpT.ex h e8
  have h38 := e8 _ _ h37
  refine ⟨nL (d.L.filter (hasR r)), .list [], .lst (SqL.of h38) (dpSpans p8), .lst (SqL.of upd_same) .nil, nL_shaped _, rfl, !(d.L.filter (hasR r)).isEmpty, by rw [nL_nil], ?_⟩
  have hfind : d.L.find? (hasR r) = (d.L.filter (hasR r)).head? := List.head?_filter.symm
  have hcase : ((d.L.filter (hasR r)).isEmpty = true ∧ ResO (upd (upd H6 q7 (HO.lst [u1, u2])) q8 (HO.lst [])) (d.L.find? (hasR r)) .non) ∨ ∃ x, (d.L.filter (hasR r)).isEmpty = false ∧ acc[0]? = some x ∧ ResO (upd (upd H6 q7 (HO.lst [u1, u2])) q8 (HO.lst [])) (d.L.find? (hasR r)) x := by
    revert p8
    rw [hfind]
    cases d.L.filter (hasR r) with
    | nil => intro _; exact .inl ⟨rfl, rfl⟩
    | cons s rest =>
      intro p8
      cases acc with
      | nil => cases p8
      | cons x0 acc =>
        cases p8 with
        | cons p0 _ => exact .inr ⟨x0, rfl, rfl, p0⟩
  rcases hcase with ⟨hE, hx⟩ | ⟨x, hE, hx0, hx⟩
  · rw [hE]
    refine ite2 (fun z => nomatch z) fun _ => ?_
    generalize V.non = x at hx ⊢
    refine ⟨by show 1 ≤ sizeLine; decide, fun l hl => ?_⟩
    have e9 := Ex.new hl (o := .lst [x])
    refine ⟨l, 2, [x], rfl, rfl, upd_same, by decide, by decide, by show 1 * 2 ≤ sizeLine; decide, fun p9 hp9 => ?_⟩
    have e10 := Ex.new hp9 (o := .lst [x, x])
    have hx9 := hx.ex (e9.trans e10)
    refine ⟨_, .list [dOpt (d.L.find? (hasR r)), dOpt (d.L.find? (hasR r))], rfl, .lst (SqL.of upd_same) (.cons (dpOpt hx9) (.cons (dpOpt hx9) .nil)), rfl, sm2.sh, sm2.nd, sm2.d60 (by decide), sm2.len (by decide), ?_⟩
    refine ⟨rfl, false, rne_same _, ite2 (fun z => nomatch z) fun _ => ?_⟩
    exact kk _ _ ⟨d, c8.ex (e9.trans e10), n, hi⟩
  · rw [hE]
    refine ite2 (fun _ => ⟨_, h13, .inl ⟨D3, acc, _, x, rfl, rfl, SqL.of h38, atI_nat (j := 0) hx0, ?_⟩⟩) fun z => absurd rfl z
    refine ⟨by show 1 ≤ sizeLine; decide, fun l hl => ?_⟩
    have e9 := Ex.new hl (o := .lst [x])
    refine ⟨l, 2, [x], rfl, rfl, upd_same, by decide, by decide, by show 1 * 2 ≤ sizeLine; decide, fun p9 hp9 => ?_⟩
    have e10 := Ex.new hp9 (o := .lst [x, x])
    have hx9 := hx.ex (e9.trans e10)
    refine ⟨_, .list [dOpt (d.L.find? (hasR r)), dOpt (d.L.find? (hasR r))], rfl, .lst (SqL.of upd_same) (.cons (dpOpt hx9) (.cons (dpOpt hx9) .nil)), rfl, sm2.sh, sm2.nd, sm2.d60 (by decide), sm2.len (by decide), ?_⟩
    refine ⟨rfl, false, rne_same _, ite2 (fun z => nomatch z) fun _ => ?_⟩
    exact kk _ _ ⟨d, c8.ex (e9.trans e10), n, hi⟩
end
end K09
set_option Elab.async false
set_option linter.all false
set_option maxRecDepth 100000
set_option maxHeartbeats 4000000
namespace Pu
open PySem PySem.Spec PyProof.Rows L2 GxR Evl
/-- x is True, x a whole number, None or a truth -/
def isTr : V → Option Bool
  | .int _ => some false
  | .non => some false
  | .bl b => some b
  | _ => none
theorem op_isTr {X : Cx} : OpR X (compareOp .Is) (fun x y H Q => ∃ b, isTr x = some b ∧ y = .bl true ∧ Q (.bl b) H) := by
  intro pins s σ H x y v u Q I rx ry h
  obtain ⟨b, hb, rfl, q⟩ := h
  cases (show u = Value.bool true from ry)
  have no : ∀ {v : Value}, plainIs v (.bool true) = true → v ≠ .bool true → Q (.bl false) H → wpAny (model X.prog X.w) X.A (compareOp .Is v (.bool true)) (EP X pins σ Q) X.xe s := fun p n q => wpAny_is_other p n ⟨.bl false, H, I, rfl, q⟩
  cases x with
  | int i =>
    obtain ⟨t, rfl⟩ := rx
    cases hb
    exact no rfl (fun z => nomatch z) q
  | non =>
    cases (show v = Value.none from rx)
    cases hb
    exact no rfl (fun z => nomatch z) q
  | bl a =>
    cases (show v = Value.bool a from rx)
    cases hb
    cases b with
    | true => exact wpAny_is_self rfl ⟨.bl true, H, I, rfl, q⟩
    | false => exact no rfl (fun z => nomatch z) q
  | _ => cases hb
end Pu
set_option Elab.async false
set_option linter.all false
set_option maxRecDepth 100000
set_option maxHeartbeats 4000000
namespace K09
open PySem PySem.Spec PyProof.Rows L2 GxR Pu Evl Sh Sv
theorem dSto_shaped (l : Nat) (la : Option Nat) (L : List S5) : SeqAt.shaped (dSto l la L) = true := by
  have h1 : ∀ L : List S5, PyData.canLayAll0 (L.map dS5) = true := fun L => by
    induction L with
    | nil => rfl
    | cons x l ih =>
      show (PyData.canLay0 (dS5 x) && PyData.canLayAll0 (l.map dS5)) = true
      rw [ih]
      rfl
  have h2 : ∀ L : List S5, PyData.depthAll (L.map dS5) ≤ 1 := fun L => by
    induction L with
    | nil => exact Nat.zero_le _
    | cons x l ih =>
      show max (PyData.depth (dS5 x)) (PyData.depthAll (l.map dS5)) ≤ 1
      exact Nat.max_le.mpr ⟨Nat.le_refl 1, ih⟩
  unfold SeqAt.shaped
  have h3 : PyData.canLay0 (dSto l la L) = true := by
    show (PyData.canLay0 (.int (l : Int)) && (PyData.canLay0 (nonD la) && (PyData.canLayAll0 (L.map dS5) && PyData.canLayAll0 []))) = true
    rw [h1]
    cases la <;> rfl
  have h4 : PyData.depth (dSto l la L) ≤ 64 := by
    show max 0 (max (PyData.depth (nonD la)) (max (PyData.depthAll (L.map dS5) + 1) 0)) + 1 ≤ 64
    have := h2 L
    have hn : PyData.depth (nonD la) = 0 := by cases la <;> rfl
    rw [hn]
    omega
  rw [h3, decide_eq_true h4]
  rfl
theorem dSto_refl (l : Nat) (la : Option Nat) (L : List S5) : PyData.eqv (dSto l la L) (dSto l la L) = true := by
  refine SeqAt.eqv_refl_plain _ (PyData.plain_of_canLay0 _ ?_)
  have h := dSto_shaped l la L
  unfold SeqAt.shaped at h
  exact (Bool.and_eq_true_iff.mp h).1
section
variable {P : Program} {w : World} {K : PySem.W.Frag} {mg : Str → Option Value} {base : Heap} {T U a fa : Addr} {ns : List Int} {cdv : Value} {s0 : Shared} {H0 : Hp} {d : D9} {σ : L2.St} {H H' : Hp} {i : Nat}
variable {fBox fPick fES fLA fIS : Addr} {dBox dPick dES dLA dIS : FuncData}
def A0 (K : PySem.W.Frag) (T U a : Addr) (ns : List Int) (_ : Nat) (σ : L2.St) (H : Hp) : Prop := σ.length = 15 ∧ σ[0]? = some (some (.ref a)) ∧ TabG H T ∧ TabG H U ∧ T ≠ U ∧ SqL K H a (ns.map V.int)
def A1 (K : PySem.W.Frag) (T U a : Addr) (ns : List Int) (_ : Nat) (σ : L2.St) (H : Hp) : Prop := ∃ p, σ.length = 15 ∧ σ[0]? = some (some (.ref a)) ∧ σ[1]? = some (some (.ref p)) ∧ TabG H U ∧ T ≠ U ∧ Hs K T a ns p H
def A2 (K : PySem.W.Frag) (T U a : Addr) (ns : List Int) (_ : Nat) (σ : L2.St) (H : Hp) : Prop := ∃ p, ∃ k : Nat, σ.length = 15 ∧ σ[0]? = some (some (.ref a)) ∧ σ[1]? = some (some (.ref p)) ∧ TabG H U ∧ T ≠ U ∧ Hs K T a ns p H ∧ σ[2]? = some (some (.int (k : Int))) ∧ 2 ≤ k ∧ k ≤ 8
def A3 (K : PySem.W.Frag) (T U a : Addr) (ns : List Int) (_ : Nat) (σ : L2.St) (H : Hp) : Prop := ∃ d, Ctx K T U a ns d σ H ∧ Num d 0 ∧ d.v = [] ∧ d.la = none
theorem st0 (hr : Room 9 (LX P w K mg base fa cdv s0 H0).A) (C : Cal P w K mg base "_law_box" ["_law_script", "_law_k"] sBox 1 (spBox K ns) fBox dBox) (hn : ns.length ≤ 100) : Ti (LX P w K mg base fa cdv s0 H0) (lawS 0) (A0 K T U a ns) (A1 K T U a ns) := by
  refine ⟨_, (ps_set (i := 1) scLaw.nd rfl (.inl rfl) (pe_call C.ok (hr.mono (by decide)) (by rfl) C.ns.mg C.ns.fn.kp C.ns.bd .nil pass0 (pa_cons (pv 0) (pa_cons pe_int pa_nil)))), fun i D σ H hA k => ?_⟩
  obtain ⟨len, v0, tT, tU, nTU, sq⟩ := hA
  exact ⟨_, v0, a, 0, rfl, sq, hn, by omega, fun p H' hp e hb => k _ _ ⟨p, by rw [List.length_set]; exact len, sl_ne v0 (by decide), sl_eq (by rw [len]; decide), TabG.ex tU e, nTU, Hs.ofNew tT sq hp e hb⟩⟩
theorem st1 (hr : Room 9 (LX P w K mg base fa cdv s0 H0).A) (C : Cal P w K mg base "_law_pick" ["_law_box_here", "_law_some"] sPick 2 spPick fPick dPick) : Ti (LX P w K mg base fa cdv s0 H0) (lawS 1) (A1 K T U a ns) (A2 K T U a ns) := by
  refine ⟨_, (ps_set (i := 2) scLaw.nd rfl (.inl rfl) (pe_op op_add pe_int (pe_call C.ok (hr.mono (by decide)) (by rfl) C.ns.mg C.ns.fn.kp C.ns.bd .nil pass0 (pa_cons (pv 1) (pa_cons (pe_lst (pa_cons pe_int (pa_cons pe_int (pa_cons pe_int (pa_cons pe_int (pa_cons pe_int pa_nil)))))) pa_nil))))), fun i D σ H hA kk => ?_⟩
  obtain ⟨p, len, v0, v1, tU, nTU, hs⟩ := hA
  refine ⟨.ref p, v1, by show 5 ≤ sizeLine; decide, fun r hr => ?_⟩
  have e1 := Ex.new hr (o := .lst [V.int 0, .int 0, .int 1, .int 2, .int 6])
  have s1 := hs.ex e1
  have hs1 := hs.step s1
  have rp : r ≠ p := fun z => by
    obtain ⟨g, s', hbx, _⟩ := hs.box
    rw [z, hbx] at hr; cases hr
  refine ⟨p, r, _, rfl, hs1.box, upd_same, rp, by show 1 ≤ 5; decide, by show 5 ≤ 1000; decide, fun v H1 hv e2 => ?_⟩
  obtain ⟨k, rfl, hk⟩ : ∃ k : Nat, v = .int (k : Int) ∧ k ≤ 6 := by
    rcases List.mem_cons.mp hv with z | hv
    · exact ⟨0, z, by decide⟩
    rcases List.mem_cons.mp hv with z | hv
    · exact ⟨0, z, by decide⟩
    rcases List.mem_cons.mp hv with z | hv
    · exact ⟨1, z, by decide⟩
    rcases List.mem_cons.mp hv with z | hv
    · exact ⟨2, z, by decide⟩
    rcases List.mem_cons.mp hv with z | hv
    · exact ⟨6, z, by decide⟩
    · cases hv
  refine ⟨_, _, rfl, rfl, kk _ _ ⟨p, 2 + k, by rw [List.length_set]; exact len, sl_ne v0 (by decide), sl_ne v1 (by decide), ?_, nTU, hs1.step (hs1.exB e2), ?_, by omega, by omega⟩⟩
  · obtain ⟨ps, h1, h2⟩ := TabG.ex tU e1
    obtain ⟨g, s', hbx, _⟩ := hs1.box
    exact ⟨ps, e2.2 _ _ (fun z => by rw [z, hbx] at h1; cases h1) h1, h2⟩
  · have : (2 : Int) + (k : Int) = ((2 + k : Nat) : Int) := by omega
    show (σ.set 2 (some (.int ((2 : Int) + (k : Int)))))[2]? = _
    rw [this]
    exact sl_eq (by rw [len]; decide)
theorem st2 (hr : Room 9 (LX P w K mg base fa cdv s0 H0).A) (C : Cal P w K mg base "empty_store" [] sEmptyStore 1 spEmpty fES dES) : Ti (LX P w K mg base fa cdv s0 H0) (lawS 2) (A2 K T U a ns) (A3 K T U a ns) := by
  refine ⟨_, (ps_asg (pe_tup (pa_cons (pe_call0 C.ok (hr.mono (by decide)) (by rfl) C.ns.mg C.ns.fn.kp C.ns.bd .nil pass0) (pa_cons (pe_lst pa_nil) (pa_cons (pe_lst pa_nil) (pa_cons pe_non (pa_cons (pe_lst pa_nil) pa_nil)))))) (pg_seq rfl (pgs_cons (pg_name (i := 3) scLaw.nd rfl (.inl rfl)) (pgs_cons (pg_name (i := 4) scLaw.nd rfl (.inl rfl)) (pgs_cons (pg_name (i := 5) scLaw.nd rfl (.inl rfl)) (pgs_cons (pg_name (i := 6) scLaw.nd rfl (.inl rfl)) (pgs_cons (pg_name (i := 7) scLaw.nd rfl (.inl rfl)) pgs_nil))))))), fun i D σ H hA kk => ?_⟩
  obtain ⟨p, k, len, v0, v1, tU, nTU, hs, v2, k2, k8⟩ := hA
  refine ⟨rfl, fun u H1 e1 h1 => ⟨by show 0 ≤ sizeLine; decide, fun q hq => ⟨by show 0 ≤ sizeLine; decide, fun z hz => ⟨by show 0 ≤ sizeLine; decide, fun r hrr => ⟨by show 5 ≤ sizeLine; decide, fun t ht => ?_⟩⟩⟩⟩⟩
  have e2 := Ex.new hq (o := .lst [])
  have e3 := Ex.new hz (o := .lst [])
  have e4 := Ex.new hrr (o := .lst [])
  have e5 := Ex.new ht (o := .tup [u, .ref q, .ref z, .non, .ref r])
  refine ⟨t, _, rfl, .inl (SqT.of upd_same), rfl, _, _, rfl, _, _, rfl, _, _, rfl, _, _, rfl, _, _, rfl, rfl, ?_⟩
  have hq5 := (e3.trans (e4.trans e5)) q _ upd_same
  have hz5 := (e4.trans e5) z _ upd_same
  have hr5 := e5 r _ upd_same
  have eA := e1.trans (e2.trans (e3.trans (e4.trans e5)))
  have hs5 := hs.step (hs.ex eA)
  obtain ⟨g, s', hbx, _⟩ := hs.box
  have nep : ∀ {b : Addr} {H9 : Hp}, Ex H H9 → H9 b = none → b ≠ p := fun {b H9} e h z => by
    have := e _ _ hbx
    rw [← z, h] at this; cases this
  refine kk _ _ ⟨⟨k, 0, [], none, [], p, q, z, r, u, [], []⟩, ?_, ?_, rfl, rfl⟩
  · refine ⟨by simp only [List.length_set]; exact len, sl_ne (sl_ne (sl_ne (sl_ne (sl_ne v0 (by decide)) (by decide)) (by decide)) (by decide)) (by decide), sl_ne (sl_ne (sl_ne (sl_ne (sl_ne v1 (by decide)) (by decide)) (by decide)) (by decide)) (by decide), sl_ne (sl_ne (sl_ne (sl_ne (sl_ne v2 (by decide)) (by decide)) (by decide)) (by decide)) (by decide),
      sl_ne (sl_ne (sl_ne (sl_ne (sl_eq (by rw [len]; decide)) (by decide)) (by decide)) (by decide)) (by decide), sl_ne (sl_ne (sl_ne (sl_eq (by rw [List.length_set, len]; decide)) (by decide)) (by decide)) (by decide), sl_ne (sl_ne (sl_eq (by rw [List.length_set, List.length_set, len]; decide)) (by decide)) (by decide), sl_ne (sl_eq (by rw [List.length_set, List.length_set, List.length_set, len]; decide)) (by decide), sl_eq (by rw [List.length_set, List.length_set, List.length_set, List.length_set, len]; decide),
      hs5, TabG.ex tU eA, nTU, ?_, hq5, ?_, hz5, hr5, .nil, ?_, ?_, nep (e1.trans (e2.trans e3)) hrr, nep e1 hq, nep (e1.trans e2) hz, ?_⟩
    · have : D9.L ⟨k, 0, [], none, [], p, q, z, r, u, [], []⟩ = [] := by
        unfold D9.L D9.S shp
        show List.map _ (sh 0 (counts k (0 - 0)) 1) = []
        rw [counts_zero]
        rfl
      rw [this]
      exact h1.ex (e2.trans (e3.trans (e4.trans e5)))
    · have : D9.S ⟨k, 0, [], none, [], p, q, z, r, u, [], []⟩ = [] := by
        unfold D9.S shp
        show sh 0 (counts k (0 - 0)) 1 = []
        rw [counts_zero]
        rfl
      rw [this]
      exact .nil
    · intro y
      have h9 := e3 q _ upd_same
      have y' : q = r := y
      rw [← y', h9] at hrr
      cases hrr
    · intro y
      rw [← show z = r from y, upd_same] at hrr
      cases hrr
    · rcases hs.scrL with s | s
      · refine .inr fun y => ?_
        have aa : ∃ o, H a = some o := by rcases s with s | ⟨o, s⟩ <;> exact ⟨_, s⟩
        obtain ⟨o, aa⟩ := aa
        have := (e1.trans (e2.trans e3)) _ _ aa
        rw [show a = r from y, hrr] at this
        cases this
      · exact .inl fun H' => .inr s
  · refine ⟨k2, k8, Nat.le_refl _, ⟨by show 0 ≤ 1000; decide, fun y hy => nomatch hy⟩, ?_, ⟨(fun _ => rfl), (fun _ => rfl)⟩, (fun m hm => nomatch hm), Nat.le_refl _, Nat.le_refl _⟩
    have : D9.L ⟨k, 0, [], none, [], p, q, z, r, u, [], []⟩ = [] := by
      unfold D9.L D9.S shp
      show List.map _ (sh 0 (counts k (0 - 0)) 1) = []
      rw [counts_zero]
      rfl
    rw [this]
    exact Run.nil
theorem st3 (hr : Room 9 (LX P w K mg base fa cdv s0 H0).A) : Ti (LX P w K mg base fa cdv s0 H0) (lawS 3) (A3 K T U a ns) (A3 K T U a ns) := by
  have hu : (LX P w K mg base fa cdv s0 H0).A.units + 64 < cLine := hr.units
  refine ⟨_, (ps_if (pt_cmpR (op_neD hu) (pv 3) (pe_tup (pa_cons pe_int (pa_cons pe_non (pa_cons (pe_tup pa_nil) pa_nil)))) (nomark _)) (pss_one (ps_ret pe_bl)) pss_nil), fun i D σ H hA kk => ?_⟩
  obtain ⟨d, c, n, hv, hla⟩ := hA
  have hL : d.L = [] := by
    unfold D9.L D9.S
    have := n.fl
    rw [hv] at this ⊢
    have f0 : d.f = 0 := Nat.le_zero.mp this
    rw [f0]
    show List.map _ (sh 0 (counts d.k (0 - 0)) 1) = []
    rw [counts_zero]
    rfl
  refine ⟨_, c.v3, by show 0 ≤ sizeLine; decide, fun p1 hp1 => ⟨by show 3 ≤ sizeLine; decide, fun p2 hp2 => ?_⟩⟩
  have e1 := Ex.new hp1 (o := .tup [])
  have e2 := Ex.new hp2 (o := .tup [V.int 0, .non, .ref p1])
  have c2 := c.ex (e1.trans e2)
  have st := c2.st
  rw [hL, hv, hla] at st
  refine ⟨dSto 0 none [], .tuple [.int 0, .none, .tuple []], dpSto st, .tup (SqT.of upd_same) (.cons (.int _) (.cons .non (.cons (.tup (SqT.of (e2 p1 _ upd_same)) .nil) .nil))), dSto_shaped _ _ _, rfl, false, rfl, ite2 (fun z => nomatch z) fun _ => ?_⟩
  exact kk _ _ ⟨d, c2, n, hv, hla⟩
theorem st5 (hr : Room 9 (LX P w K mg base fa cdv s0 H0).A) (G : Mg mg) (C1 : Cal P w K mg base "laid_all" ["keep", "rows"] sLaidAll 8 (spLaidAll K) fLA dLA) (W1 : KwOk K dLA ["keep", "rows"] ["rows", "keep"] (perm [1, 0]) (perm [1, 0])) (C2 : Cal P w K mg base "is_store" ["keep", "value"] sIsStore 7 (spIsStore T U) fIS dIS) :
    ∃ t, PS (LX P w K mg base fa cdv s0 H0) (lawS 5) t ∧ ∀ i D σ H d, Ctx K T U a ns d σ H → Num d i → i ≤ 60 → (∀ H', D.rt (.bl true) H') → t D σ H := by
  have hu : (LX P w K mg base fa cdv s0 H0).A.units + 64 < cLine := hr.units
  have hg : (LX P w K mg base fa cdv s0 H0).A.guards = some [] := rfl
  refine ⟨_, (ps_ret (pe_and (pe_cmpR op_eq (pe_callB (cr_repr hu hg) (by rfl) G.repr boot_repr (pa_cons (pe_call C1.ok (hr.mono (by decide)) (by rfl) C1.ns.mg C1.ns.fn.kp C1.ns.bd .nil pass0 (pa_cons (pv 2) (pa_cons (pv 7) pa_nil))) pa_nil)) (pe_callB (cr_repr hu hg) (by rfl) G.repr boot_repr (pa_cons (pv 3) pa_nil)) (nomark _)) (pe_and (pe_cmpR op_isTr (pe_call C2.ok (hr.mono (by decide)) (by rfl) C2.ns.mg C2.ns.fn.kp C2.ns.bd .nil pass0 (pa_cons (pv 2) (pa_cons (pv 3) pa_nil))) pe_bl (nomark _)) (pe_one (pe_cmpR (op_eqD hu) (pe_callW C1.ok (hr.mono (by decide)) (by rfl) C1.ns.mg C1.ns.fn.kp W1 pass0 (pk_cons (pe_callTy (T := "tuple") call_tuple_of (by rfl) G.tuple (by decide +kernel) (pa_cons (pv 7) pa_nil)) (pk_cons (pv 2) pk_nil))) (pv 3) (nomark _)))))), fun i D σ H d c n hi kk => ?_⟩
  have vl := n.li
  have rl := n.ri
  have sl := D9.Sl n
  have ll : d.L.length = d.S.length := D9.Ll
  have sm := sm_store n hi
  refine ⟨_, c.v2, _, c.v7, d.k, d.r, d.R, d.zs, (d.v.length, d.la, d.L), rfl, n.k2, n.k8, .inr (SqL.of c.hr), c.rw, by omega, n.run, fun u1 H1 e1 h1 => ?_⟩
  refine ⟨_, dSto d.v.length d.la d.L, rfl, (dpSto h1), rfl, sm.sh, sm.nd, sm.d60 (by decide), sm.len (by decide), ?_⟩
  have c1 := c.ex e1
  refine ⟨_, c1.v3, _, dSto d.v.length d.la d.L, rfl, (dpSto c1.st), rfl, sm.sh, sm.nd, sm.d60 (by decide), sm.len (by decide), ?_⟩
  refine ⟨rfl, true, req_same _, iteT ?_⟩
  have ok : ∀ s ∈ d.L, s.Ok := fun s hs => by
    obtain ⟨p, hp, rfl⟩ := List.mem_map.mp hs
    obtain ⟨j, hj⟩ := sh_pow _ 0 _ p hp
    have := n.mem hp
    have e : p = (p.1, 2 ^ j) := by rw [← hj]
    rw [e]
    exact spn_ok n.vok (by rw [← hj]; exact this.1)
  refine ⟨_, c1.v2, _, c1.v3, d.k, d.v.length, d.f, d.la, d.L, d.u, rfl, n.k2, n.k8, c1.st, n.nla, ok, n.fl, by omega, D9.LS, c1.hs.tab, c1.tU, c.nTU, fun H2 x2 => ?_⟩
  refine ⟨true, rfl, rfl, true, rfl, iteT ?_⟩
  have st2 := c1.st.exT2 c1.hs.tab c1.tU x2
  have nT : ∀ {b : Addr} {xs : List V}, H1 b = some (.lst xs) → H2 b = some (.lst xs) := fun {b xs} h => x2.2.2 _ _ (TabG.ne c1.hs.tab h fun ps z => by cases z) (TabG.ne c1.tU h fun ps z => by cases z) h
  have nt : ∀ {b : Addr} {xs : List V}, H1 b = some (.tup xs) → H2 b = some (.tup xs) := fun {b xs} h => x2.2.2 _ _ (TabG.ne c1.hs.tab h fun ps z => by cases z) (TabG.ne c1.tU h fun ps z => by cases z) h
  have hr2 := nT c1.hr
  have rw2 : Paired (RowT H2) d.R d.zs := Paired.mapP c1.rw fun _ _ ⟨b, h1, h2⟩ => ⟨b, h1, nt h2⟩
  refine ⟨_, c1.v7, d.r, d.zs, rfl, .inl ⟨SqL.of hr2, fun t ht => ?_⟩⟩
  have e3 := Ex.new ht (o := .tup d.zs)
  refine ⟨_, c1.v2, d.k, t, d.R, d.zs, (d.v.length, d.la, d.L), rfl, n.k2, n.k8, .inl (SqT.of upd_same), Paired.mapP rw2 fun _ _ h => h.ex e3, by omega, n.run, fun u4 H4 e4 h4 => ?_⟩
  refine ⟨_, c1.v3, dSto d.v.length d.la d.L, dSto d.v.length d.la d.L, dpSto h4, dpSto (st2.ex (e3.trans e4)), dSto_shaped _ _ _, dSto_shaped _ _ _, ?_⟩
  rw [dSto_refl]
  exact kk _
end
end K09
set_option Elab.async false
set_option linter.all false
set_option maxRecDepth 100000
set_option maxHeartbeats 4000000
namespace K09
open PySem PySem.Spec PyProof.Rows L2 GxR Pu Evl
def Fx (K : PySem.W.Frag) (mg : Str → Option Value) (x : Str) (ps : List Str) (st : Stmt) : Prop := ∃ f fd, Fns K mg x ps st f fd
def Fk (K : PySem.W.Frag) (mg : Str → Option Value) (x : Str) (ps : List Str) (st : Stmt) (ks : List Str) (is : List Nat) : Prop := ∃ f fd, Fns K mg x ps st f fd ∧ KwOk K fd ps ks (perm is) (perm is)
/-- a def of the text -/
def DefIn (K : PySem.W.Frag) (x : Str) (st : Stmt) : Prop := ∃ (f : Addr) (oc : Value) (od : Option Addr) (kV doc pm : Value) (an : Option Addr) (cd ct : Value) (sl : Array (Option Value)),
  PySem.W.nsIn K mainGlobals x = some (some (.ref f)) ∧ K.lookup f = some ⟨oc, od, .func (PySem.W.fnOf x x (defArgs st) (defBody st) (defScope st) .none kV doc pm an cd ct), sl⟩ ∧ PySem.W.codeIn K cd x = true ∧ PySem.W.keepIn K (.ref f) = true
section
variable {K : PySem.W.Frag} {h : Heap} {mg : Str → Option Value}
theorem DefIn.fx {x : Str} {ps : List Str} {st : Stmt} (X : K.In h) (G : h.Ns mainGlobals mg) (D : DefIn K x st)
    (hb : ∀ (kV doc pm : Value) (an : Option Addr) (cdv ct : Value) (us : List Value), us.length = ps.length → bindArgs (PySem.W.fnOf x x (defArgs st) (defBody st) (defScope st) .none kV doc pm an cdv ct) ⟨us, []⟩ = pure (ps.zip us)) : Fx K mg x ps st := by
  obtain ⟨f, oc, od, kV, doc, pm, an, cd, ct, sl, h1, h2, h3, h4⟩ := D
  exact ⟨f, _, fun_mk h2 h3 h4, (fun_mk h2 h3 h4).binds hb, PySem.W.mg_of X G h1⟩
theorem DefIn.fk {x : Str} {ps ks : List Str} {is : List Nat} {st : Stmt} (X : K.In h) (G : h.Ns mainGlobals mg) (D : DefIn K x st)
    (hb : ∀ (kV doc pm : Value) (an : Option Addr) (cdv ct : Value) (us : List Value), us.length = ps.length → bindArgs (PySem.W.fnOf x x (defArgs st) (defBody st) (defScope st) .none kV doc pm an cdv ct) ⟨us, []⟩ = pure (ps.zip us))
    (hk : ∀ (kV doc pm : Value) (an : Option Addr) (cdv ct : Value) (ws : List Value), ws.length = is.length → bindArgs (PySem.W.fnOf x x (defArgs st) (defBody st) (defScope st) .none kV doc pm an cdv ct) ⟨[], ks.zip ws⟩ = pure (ps.zip (perm is ws))) (hn : 0 < ps.length) : Fk K mg x ps st ks is := by
  obtain ⟨f, oc, od, kV, doc, pm, an, cd, ct, sl, h1, h2, h3, h4⟩ := D
  exact ⟨f, _, ⟨fun_mk h2 h3 h4, (fun_mk h2 h3 h4).binds hb, PySem.W.mg_of X G h1⟩, kwOk (fun ws hl => hk _ _ _ _ _ _ ws hl) hn⟩
end
theorem DefIn.mk {K : PySem.W.Frag} {x : Str} {st : Stmt} {f : Addr} {oc : Value} {od : Option Addr} {kV doc pm : Value} {an : Option Addr} {cd ct : Value} {sl : Array (Option Value)}
    (h1 : PySem.W.nsIn K mainGlobals x = some (some (.ref f))) (h2 : K.lookup f = some ⟨oc, od, .func (PySem.W.fnOf x x (defArgs st) (defBody st) (defScope st) .none kV doc pm an cd ct), sl⟩) (h3 : PySem.W.codeIn K cd x = true) (h4 : PySem.W.keepIn K (.ref f) = true) : DefIn K x st :=
  ⟨f, oc, od, kV, doc, pm, an, cd, ct, sl, h1, h2, h3, h4⟩
theorem tab_mk {K : PySem.W.Frag} {x : Str} {f c T : Addr} {oc cc : Value} {od oe : Option Addr} {fd : FuncData} {vs : Array Value} {sl sm : Array (Option Value)} (h1 : PySem.W.nsIn K mainGlobals x = some (some (.ref f))) (h2 : K.lookup f = some ⟨oc, od, .func fd, sl⟩) (hc : fd.code = .ref c)
    (h3 : K.lookup c = some ⟨cc, oe, .fields vs, sm⟩) (h4 : (vs[11]? : Option Value) = some (.ref T)) : PySem.W.tabIn K x = some (c, T) := by
  unfold PySem.W.tabIn
  rw [h1]
  show (match K.lookup f with
    | some ⟨_, _, .func fd, _⟩ => _
    | _ => none) = _
  rw [h2]
  show (match fd.code with
    | .ref c => _
    | _ => none) = _
  rw [hc]
  show (match K.lookup c with
    | some ⟨_, _, .fields vs, _⟩ => _
    | _ => none) = _
  rw [h3]
  show (match (vs[11]? : Option Value) with
    | some (.ref P) => some (c, P)
    | _ => none) = _
  rw [h4]
theorem cst_mk {K : PySem.W.Frag} {x : Str} {v : V} {u : Value} (h : PySem.W.nsIn K mainGlobals x = some (some u)) (r : RelV v u) : ∃ u, PySem.W.nsIn K mainGlobals x = some (some u) ∧ RelV v u := ⟨u, h, r⟩
/-- all that the text must hold -/
structure AllF (K : PySem.W.Frag) (mg : Str → Option Value) (c0 : Addr) (c1 : Addr) : Prop where
  g : Mg mg
  k_MOST_VALUE : ∃ u, mg "MOST_VALUE" = some u ∧ RelV (.int 1000000) u
  b_sum : mg "sum" = none
  b_sorted : mg "sorted" = none
  int : Fx K mg "is_integer" ["value"] sIsInteger
  num : Fx K mg "is_number" ["value"] sIsNumber
  seq : Fx K mg "is_sequence" ["value"] sIsSequence
  par : Fx K mg "is_of_parts" ["value", "many"] sIsOfParts
  nn : Fx K mg "need_number" ["value"] sNeedNumber
  ik : Fx K mg "is_keep" ["value"] sIsKeep
  nk : Fx K mg "need_keep" ["keep"] sNeedKeep
  co : Fx K mg "counts_of" ["keep", "many"] sCountsOf
  sf : Fx K mg "shape_from" ["keep", "first", "laid"] sShapeFrom
  st : Fx K mg "is_stretch" ["value"] sIsStretch
  fo : Fx K mg "first_of" ["some", "laid"] sFirstOf
  rd : Fx K mg "is_reading" ["value"] sIsReading
  sz : Fx K mg "is_size" ["value"] sIsSize
  su : Fx K mg "sums_with" ["many", "low", "high", "needs"] sSumsWith
  en : Fx K mg "ends_of" ["low", "high"] sEndsOf
  sp : Fx K mg "is_span" ["value"] sIsSpan
  rs : Fx K mg "row_span" ["row", "value"] sRowSpan
  be : Fx K mg "behind" ["span"] sBehind
  al : Fx K mg "span_of_all" ["spans"] sSpanOfAll
  jo : Fx K mg "join" ["one", "other"] sJoin
  es : Fx K mg "empty_store" [] sEmptyStore
  so : Fx K mg "shape_of" ["store"] sShapeOf
  iss : Fx K mg "is_store" ["keep", "value"] sIsStore
  se : Fx K mg "settled" ["spans", "keep"] sSettled
  la : Fk K mg "lay" ["store", "keep", "stamp", "value"] sLay ["value", "stamp", "keep", "store"] [3, 2, 1, 0]
  lg : Fk K mg "let_go" ["store", "below"] sLetGo ["below", "store"] [1, 0]
  sw : Fk K mg "span_with" ["store", "row"] sSpanWith ["row", "store"] [1, 0]
  laa : Fk K mg "laid_all" ["keep", "rows"] sLaidAll ["rows", "keep"] [1, 0]
  box : Fx K mg "_law_box" ["_law_script", "_law_k"] sBox
  take : Fx K mg "_law_take" ["_law_box_here", "_law_many"] sTake
  pick : Fx K mg "_law_pick" ["_law_box_here", "_law_some"] sPick
  ll : Fx K mg "_law_laid" ["_law_spans", "_law_keep", "_law_row"] sLawLaid
  ls : Fx K mg "_law_store" ["_law_laid_here", "_law_last", "_law_spans", "_law_values"] sLawStore
  lh : Fx K mg "_law_handed" ["_law_store_here"] sLawHanded
  asp : ∃ f fd, FunC K "are_spans" "are_spans" sAreSpans f fd c0 ∧ Binds K fd ["value"] [] ∧ mg "are_spans" = some (.ref f)
  ish : ∃ f fd, FunC K "is_shape" "is_shape" sIsShape f fd c1 ∧ Binds K fd ["keep", "laid", "value"] [] ∧ mg "is_shape" = some (.ref f)
section
variable {P : Program} {w : World} {K : PySem.W.Frag} {mg : Str → Option Value} {c0 c1 T0 T1 a fa : Addr} {ns : List Int}
theorem body (F : AllF K mg c0 c1) (nT : T0 ≠ T1) (hn : ns.length ≤ 100) (hr9 : Room 10 callerA) : BodyOk P w K mg [(c0, T0), (c1, T1)] lawN sLaw fa a ns := by
  intro base cdv s H M hTB hT hS
  have TB0 : TabB base mg c0 T0 := hTB (c0, T0) List.mem_cons_self
  have TB1 : TabB base mg c1 T1 := hTB (c1, T1) (List.mem_cons_of_mem _ List.mem_cons_self)
  have tT : TabG H T0 := ⟨#[], hT (c0, T0) List.mem_cons_self, trivial⟩
  have tU : TabG H T1 := ⟨#[], hT (c1, T1) (List.mem_cons_of_mem _ List.mem_cons_self), trivial⟩
  have hr : Room 9 (LX P w K mg base fa cdv s H).A := hr9.deeper _
  have G := F.g
  have MV : Mv mg := F.k_MOST_VALUE
  obtain ⟨f_int, d_int, x_int⟩ := F.int
  obtain ⟨f_num, d_num, x_num⟩ := F.num
  obtain ⟨f_seq, d_seq, x_seq⟩ := F.seq
  obtain ⟨f_par, d_par, x_par⟩ := F.par
  obtain ⟨f_nn, d_nn, x_nn⟩ := F.nn
  obtain ⟨f_ik, d_ik, x_ik⟩ := F.ik
  obtain ⟨f_nk, d_nk, x_nk⟩ := F.nk
  obtain ⟨f_co, d_co, x_co⟩ := F.co
  obtain ⟨f_sf, d_sf, x_sf⟩ := F.sf
  obtain ⟨f_st, d_st, x_st⟩ := F.st
  obtain ⟨f_fo, d_fo, x_fo⟩ := F.fo
  obtain ⟨f_rd, d_rd, x_rd⟩ := F.rd
  obtain ⟨f_sz, d_sz, x_sz⟩ := F.sz
  obtain ⟨f_su, d_su, x_su⟩ := F.su
  obtain ⟨f_en, d_en, x_en⟩ := F.en
  obtain ⟨f_sp, d_sp, x_sp⟩ := F.sp
  obtain ⟨f_rs, d_rs, x_rs⟩ := F.rs
  obtain ⟨f_be, d_be, x_be⟩ := F.be
  obtain ⟨f_al, d_al, x_al⟩ := F.al
  obtain ⟨f_jo, d_jo, x_jo⟩ := F.jo
  obtain ⟨f_es, d_es, x_es⟩ := F.es
  obtain ⟨f_so, d_so, x_so⟩ := F.so
  obtain ⟨f_iss, d_iss, x_iss⟩ := F.iss
  obtain ⟨f_se, d_se, x_se⟩ := F.se
  obtain ⟨f_la, d_la, x_la, w_la⟩ := F.la
  obtain ⟨f_lg, d_lg, x_lg, w_lg⟩ := F.lg
  obtain ⟨f_sw, d_sw, x_sw, w_sw⟩ := F.sw
  obtain ⟨f_laa, d_laa, x_laa, w_laa⟩ := F.laa
  obtain ⟨f_box, d_box, x_box⟩ := F.box
  obtain ⟨f_take, d_take, x_take⟩ := F.take
  obtain ⟨f_pick, d_pick, x_pick⟩ := F.pick
  obtain ⟨f_ll, d_ll, x_ll⟩ := F.ll
  obtain ⟨f_ls, d_ls, x_ls⟩ := F.ls
  obtain ⟨f_lh, d_lh, x_lh⟩ := F.lh
  obtain ⟨f_asp, d_asp, c_asp, b_asp, m_asp⟩ := F.asp
  obtain ⟨f_ish, d_ish, c_ish, b_ish, m_ish⟩ := F.ish
  have x_asp : Fns K mg "are_spans" ["value"] sAreSpans f_asp d_asp := ⟨c_asp.fn, b_asp, m_asp⟩
  have x_ish : Fns K mg "is_shape" ["keep", "laid", "value"] sIsShape f_ish d_ish := ⟨c_ish.fn, b_ish, m_ish⟩
  have gNN : FnOk P w K mg base CX0 3 f_nn d_nn ["value"] (spV pNat) := ok_need_number M G x_nn.fn x_num x_int
  have gNK : FnOk P w K mg base CX0 3 f_nk d_nk ["keep"] (spV pKeep) := ok_need_keep M G x_nk.fn x_ik x_int
  have gSF : FnOk P w K mg base CX0 5 f_sf d_sf ["keep", "first", "laid"] (spSh pShape) := ok_shape_from M G x_sf.fn x_co x_nk x_ik x_int
  have B : Base P w K mg base f_nn f_nk f_sf d_nn d_nk d_sf := ⟨gNN, gNK, gSF⟩
  have gSt : PF P w K mg base 3 f_st d_st ["value"] pStretch := pf_is_stretch M G x_st.fn x_par.fn x_par.bd x_par.mg x_num.fn x_num.bd x_num.mg x_seq.fn x_seq.bd x_seq.mg x_int.fn x_int.bd x_int.mg
  have gFO : FnOk P w K mg base CX0 1 f_fo d_fo ["some", "laid"] (spV (pFirst K)) := ok_first_of G x_fo.fn
  have gIS : FnOk P w K mg base CX0 6 f_ish d_ish ["keep", "laid", "value"] (spIsShape K T1) := ok_is_shape M G c_ish TB1 B x_nk x_nn x_sf x_seq x_st gSt x_fo gFO
  have gSp : PF P w K mg base 4 f_sp d_sp ["value"] pSpan := pf_is_span M G MV F.b_sum x_sp.fn x_par x_num x_int x_sz x_rd x_su x_en x_seq
  have gAS : FnOk P w K mg base CX0 6 f_asp d_asp ["value"] (spSpans K T0) := ok_are_spans M G c_asp TB0 x_seq x_sp gSp
  have gAl : FnOk P w K mg base CX0 2 f_al d_al ["spans"] (spAll K) := ok_span_of_all G F.b_sum x_al.fn x_be
  have gJo : FnOk P w K mg base CX0 5 f_jo d_jo ["one", "other"] (spJoin K) := ok_join M x_jo.fn x_sp gSp x_be x_al gAl
  have gES : FnOk P w K mg base CX0 1 f_es d_es [] spEmpty := ok_empty x_es.fn
  have gSO : FnOk P w K mg base CX0 1 f_so d_so ["store"] (spShapeOf K) := ok_shape_of G x_so.fn
  have gLG : FnOk P w K mg base CX0 4 f_lg d_lg ["store", "below"] spLetGo := ok_let_go G x_lg.fn x_nn gNN x_be
  have gSW : FnOk P w K mg base CX0 3 f_sw d_sw ["store", "row"] spSpanWith := ok_span_with M G x_sw.fn x_num x_int x_be
  have gSe : FnOk P w K mg base CX0 6 f_se d_se ["spans", "keep"] (spSettled Rl) := ok_settled G x_se.fn x_jo gJo
  have gLa : FnOk P w K mg base CX0 7 f_la d_la ["store", "keep", "stamp", "value"] (spLay Rl) := ok_lay M G MV x_la.fn x_nk gNK x_num x_int x_rd x_rs x_se gSe
  have gIs : FnOk P w K mg base CX0 7 f_iss d_iss ["keep", "value"] (spIsStore T0 T1) := ok_is_store M G x_iss.fn B x_nk x_par x_seq x_num x_int x_asp gAS x_ish gIS x_so gSO
  have gLA : FnOk P w K mg base CX0 8 f_laa d_laa ["keep", "rows"] (spLaidAll K) := ok_laid_all x_laa.fn x_nk gNK x_es gES x_lg gLG x_la gLa
  have gBox : FnOk P w K mg base CX0 1 f_box d_box ["_law_script", "_law_k"] (spBox K ns) := ok_box G x_box.fn
  have gTake : FnOk P w K mg base CX0 1 f_take d_take ["_law_box_here", "_law_many"] spTake := ok_take G x_take.fn
  have gPick : FnOk P w K mg base CX0 2 f_pick d_pick ["_law_box_here", "_law_some"] spPick := ok_pick G x_pick.fn x_take
  have gLL : FnOk P w K mg base CX0 1 f_ll d_ll ["_law_spans", "_law_keep", "_law_row"] spLL := ok_law_laid G F.b_sorted x_ll.fn
  have gLS : FnOk P w K mg base CX0 1 f_ls d_ls ["_law_laid_here", "_law_last", "_law_spans", "_law_values"] spLS := ok_law_store G F.b_sum x_ls.fn
  have gLH : FnOk P w K mg base CX0 1 f_lh d_lh ["_law_store_here"] spLH := ok_law_handed G x_lh.fn
  have CT : Cal P w K mg base "_law_take" ["_law_box_here", "_law_many"] sTake 1 spTake f_take d_take := ⟨x_take, gTake⟩
  have CP : Cal P w K mg base "_law_pick" ["_law_box_here", "_law_some"] sPick 2 spPick f_pick d_pick := ⟨x_pick, gPick⟩
  have bd : Tis (LX P w K mg base fa cdv s H) (bodyOf (lawS 4)) (B0 K T0 T1 a ns) (B2 K T0 T1 a ns) :=
    Tis.cons (ti_box hr ⟨x_box, gBox⟩ hn) (Tis.cons (ti_if hr G CP CT ⟨x_lg, gLG⟩ w_lg ⟨x_lh, gLH⟩ ⟨x_ll, gLL⟩ ⟨x_la, gLa⟩ w_la) (Tis.cons (ti_same hr G ⟨x_ls, gLS⟩ ⟨x_so, gSO⟩) (Tis.one (ti_row hr G CT ⟨x_sw, gSW⟩ w_sw ⟨x_lh, gLH⟩))))
  obtain ⟨tb, hb1, hb2⟩ := bd
  obtain ⟨t0, p0, r0⟩ := st0 (T := T0) (U := T1) (a := a) (fa := fa) (cdv := cdv) (s0 := s) (H0 := H) hr ⟨x_box, gBox⟩ hn
  obtain ⟨t1, p1, r1⟩ := st1 (T := T0) (U := T1) (a := a) (ns := ns) hr CP
  obtain ⟨t2, p2, r2⟩ := st2 (T := T0) (U := T1) (a := a) (ns := ns) hr ⟨x_es, gES⟩
  obtain ⟨t3, p3, r3⟩ := st3 (T := T0) (U := T1) (a := a) (ns := ns) hr
  obtain ⟨t5, p5, r5⟩ := st5 (a := a) (ns := ns) hr G ⟨x_laa, gLA⟩ w_laa ⟨x_iss, gIs⟩
  refine ⟨_, pss_cons p0 (pss_cons p1 (pss_cons p2 (pss_cons p3 (pss_cons (ps_for PassesOwn.never rfl (pi_range2 (by rfl) G.range (pa_cons pe_int (pa_cons (pe_callB (call_max2 rfl) (by rfl) G.max boot_max (pa_cons pe_int (pa_cons (pe_callB (call_min2 rfl) (by rfl) G.min boot_min
    (pa_cons (pe_callB call_len (by rfl) G.len boot_len (pa_cons (pv 0) pa_nil)) (pa_cons pe_int pa_nil))) pa_nil))) pa_nil))) (pg_name (i := 8) scLaw.nd rfl (.inl rfl)) hb1) (pss_one p5))))), ?_⟩
  refine r0 0 _ _ _ ⟨rfl, rfl, tT, tU, nT, hS⟩ fun σ1 H1 a1 => r1 0 _ _ _ a1 fun σ2 H2 a2 => r2 0 _ _ _ a2 fun σ3 H3 a3 => r3 0 _ _ _ a3 fun σ4 H4 a4 => ?_
  obtain ⟨d, c, n, _, _⟩ := a4
  obtain ⟨m1, hm1⟩ : ∃ m : Int, (if (60 : Int) < ((ns.map V.int).length : Int) then (60 : Int) else ((ns.map V.int).length : Int)) = m := ⟨_, rfl⟩
  obtain ⟨m, hm⟩ : ∃ m : Int, (if m1 > 20 then m1 else 20) = m := ⟨_, rfl⟩
  have hm9 : 20 ≤ m ∧ m ≤ 60 := by
    rw [← hm, ← hm1]
    split <;> split <;> omega
  refine ⟨_, c.v0, .ref a, _, rfl, .inl ⟨_, c.hs.scrL, rfl⟩, _, 60, rfl, 20, _, rfl, 1, m, ?_, ⟨by omega, by omega, by omega, by omega⟩, for_range (lo := 1) (n := (m - 1).toNat) (fun i σ H => ∃ d, Ctx K T0 T1 a ns d σ H ∧ Num d i) ⟨d, c, n⟩ (fun i σ' H' hi p1 => ?_) fun σ' H' p1 => ?_⟩
  · rw [← hm, ← hm1]
  · obtain ⟨d, c, n⟩ := p1
    have em : (1 : Int) + (i : Int) = ((i + 1 : Nat) : Int) := by omega
    have hi60 : i < 60 := by omega
    refine hb2 i _ _ _ ⟨d, c.set (by decide), n, hi60, ?_⟩ fun σ'' H'' b => ?_
    · rw [em]
      exact sl_eq (by rw [c.len]; decide)
    · obtain ⟨d, c, n, _⟩ := b
      exact ⟨d, c, n⟩
  · obtain ⟨d, c, n⟩ := p1
    exact r5 _ _ _ _ d c n (by omega) fun H' => rfl
end
theorem walk {l : PySem.W.OpenLaw} {q : Program} {loose : List Str} {XP : (Str → Option Value) → Heap → Prop} {YP : World → Heap → Prop} {d d0 d1 : DefRec} {K : Params → PySem.W.Frag} (hn : l.most = some 63) (hdf : d.params.defaults = []) (hd0 : (recsOf q).find? (fun e => e.name == ("are_spans" : Str)) = some d0) (hd1 : (recsOf q).find? (fun e => e.name == ("is_shape" : Str)) = some d1)
    (hY : ∀ (w : World) (h : Heap), YP w h → (K w.params).In h)
    (F : ∀ (w : World) (mg : Str → Option Value) (fa : Addr) (h : Heap), (K w.params).In h → h.Ns mainGlobals mg → mg d.name = some (.ref fa) →
      ∃ (fd : FuncData) (c0 T0 : Addr) (c1 T1 : Addr), Fun (K w.params) "law" "law" sLaw fa fd ∧ (∀ (s : Shared) (u : Value), BindsTo s fd ⟨[u], []⟩ [("_law_script", u)]) ∧ AllF (K w.params) mg c0 c1 ∧ PySem.W.tabIn (K w.params) "are_spans" = some (c0, T0) ∧ (K w.params).lookup T0 = none ∧ PySem.W.tabIn (K w.params) "is_shape" = some (c1, T1) ∧ (K w.params).lookup T1 = none ∧ T0 ≠ T1) :
    PySem.W.WalkO q loose XP YP l.row.toRowW d [] (fun f vs => PySem.call f vs) := by
  refine Att.attach_callB hn hdf fun w s₀ s₁ mg mb fa o pm cd doc a vs ns G Y ho hd hcd hmg hobj hints hlen hbits hg => ?_
  have KX := hY w _ Y
  obtain ⟨fd, c0, T0, c1, T1, Fn, hb, A, ht0, nT0, ht1, nT1, ne01⟩ := F w mg fa _ KX G.T.g hmg
  obtain ⟨C0, hT0⟩ := PySem.W.tab_of G.T KX hd0 ht0
  obtain ⟨C1, hT1⟩ := PySem.W.tab_of G.T KX hd1 ht1
  have one : Bare [(c0, T0), (c1, T1)] (K w.params) _ := fun p hp => by
    rcases List.mem_cons.mp hp with z | hp
    · rw [z]; exact ⟨⟨hT0, nT0⟩, C0⟩
    rcases List.mem_cons.mp hp with z | hp
    · rw [z]; exact ⟨⟨hT1, nT1⟩, C1⟩
    · cases hp
  have hr : Room 10 callerA := ⟨rfl, by decide, by decide⟩
  exact law_end (cs := [(c0, T0), (c1, T1)]) KX G.T.g G.T.b G.T.builtins G.T.nolimit hg one G.T.bmain hobj hints (Nat.le_trans hlen (by decide)) Fn scLaw hb (hr.mono (by decide)) (body A ne01 (by omega) hr)
end K09
set_option Elab.async false
set_option linter.all false
set_option maxRecDepth 100000
set_option maxHeartbeats 4000000
namespace K09
open PySem PySem.Spec PyProof.Rows L2 GxR Pu Evl
theorem allf {K : PySem.W.Frag} {h : Heap} {mg : Str → Option Value} {f0 c0 : Addr} {od0 an0 : Option Addr} {sl0 : Array (Option Value)} {oc0 kV0 dc0 pm0 ct0 : Value} {f1 c1 : Addr} {od1 an1 : Option Addr} {sl1 : Array (Option Value)} {oc1 kV1 dc1 pm1 ct1 : Value} (X : K.In h) (G : h.Ns mainGlobals mg)
    (d_int : DefIn K "is_integer" sIsInteger)
    (d_num : DefIn K "is_number" sIsNumber)
    (d_seq : DefIn K "is_sequence" sIsSequence)
    (d_par : DefIn K "is_of_parts" sIsOfParts)
    (d_nn : DefIn K "need_number" sNeedNumber)
    (d_ik : DefIn K "is_keep" sIsKeep)
    (d_nk : DefIn K "need_keep" sNeedKeep)
    (d_co : DefIn K "counts_of" sCountsOf)
    (d_sf : DefIn K "shape_from" sShapeFrom)
    (d_st : DefIn K "is_stretch" sIsStretch)
    (d_fo : DefIn K "first_of" sFirstOf)
    (d_rd : DefIn K "is_reading" sIsReading)
    (d_sz : DefIn K "is_size" sIsSize)
    (d_su : DefIn K "sums_with" sSumsWith)
    (d_en : DefIn K "ends_of" sEndsOf)
    (d_sp : DefIn K "is_span" sIsSpan)
    (d_rs : DefIn K "row_span" sRowSpan)
    (d_be : DefIn K "behind" sBehind)
    (d_al : DefIn K "span_of_all" sSpanOfAll)
    (d_jo : DefIn K "join" sJoin)
    (d_es : DefIn K "empty_store" sEmptyStore)
    (d_so : DefIn K "shape_of" sShapeOf)
    (d_iss : DefIn K "is_store" sIsStore)
    (d_se : DefIn K "settled" sSettled)
    (d_la : DefIn K "lay" sLay)
    (d_lg : DefIn K "let_go" sLetGo)
    (d_sw : DefIn K "span_with" sSpanWith)
    (d_laa : DefIn K "laid_all" sLaidAll)
    (d_box : DefIn K "_law_box" sBox)
    (d_take : DefIn K "_law_take" sTake)
    (d_pick : DefIn K "_law_pick" sPick)
    (d_ll : DefIn K "_law_laid" sLawLaid)
    (d_ls : DefIn K "_law_store" sLawStore)
    (d_lh : DefIn K "_law_handed" sLawHanded)
    (a_asp : PySem.W.nsIn K mainGlobals "are_spans" = some (some (.ref f0))) (l_asp : K.lookup f0 = some ⟨oc0, od0, .func (PySem.W.fnOf "are_spans" "are_spans" (defArgs sAreSpans) (defBody sAreSpans) (defScope sAreSpans) .none kV0 dc0 pm0 an0 (.ref c0) ct0), sl0⟩) (c_asp : PySem.W.codeIn K (.ref c0) "are_spans" = true) (k_asp : PySem.W.keepIn K (.ref f0) = true)
    (a_ish : PySem.W.nsIn K mainGlobals "is_shape" = some (some (.ref f1))) (l_ish : K.lookup f1 = some ⟨oc1, od1, .func (PySem.W.fnOf "is_shape" "is_shape" (defArgs sIsShape) (defBody sIsShape) (defScope sIsShape) .none kV1 dc1 pm1 an1 (.ref c1) ct1), sl1⟩) (c_ish : PySem.W.codeIn K (.ref c1) "is_shape" = true) (k_ish : PySem.W.keepIn K (.ref f1) = true)
    (q_MOST_VALUE : ∃ u, PySem.W.nsIn K mainGlobals "MOST_VALUE" = some (some u) ∧ RelV (.int 1000000) u)
    (z_isinstance : PySem.W.nsIn K mainGlobals "isinstance" = some none)
    (z_int : PySem.W.nsIn K mainGlobals "int" = some none)
    (z_bool : PySem.W.nsIn K mainGlobals "bool" = some none)
    (z_list : PySem.W.nsIn K mainGlobals "list" = some none)
    (z_tuple : PySem.W.nsIn K mainGlobals "tuple" = some none)
    (z_len : PySem.W.nsIn K mainGlobals "len" = some none)
    (z_range : PySem.W.nsIn K mainGlobals "range" = some none)
    (z_enumerate : PySem.W.nsIn K mainGlobals "enumerate" = some none)
    (z_reversed : PySem.W.nsIn K mainGlobals "reversed" = some none)
    (z_all : PySem.W.nsIn K mainGlobals "all" = some none)
    (z_abs : PySem.W.nsIn K mainGlobals "abs" = some none)
    (z_max : PySem.W.nsIn K mainGlobals "max" = some none)
    (z_min : PySem.W.nsIn K mainGlobals "min" = some none)
    (z_set : PySem.W.nsIn K mainGlobals "set" = some none)
    (z_repr : PySem.W.nsIn K mainGlobals "repr" = some none)
    (z_sum : PySem.W.nsIn K mainGlobals "sum" = some none)
    (z_sorted : PySem.W.nsIn K mainGlobals "sorted" = some none)
    : AllF K mg c0 c1 where
  g := ⟨PySem.W.mg_none_of X G z_isinstance, PySem.W.mg_none_of X G z_int, PySem.W.mg_none_of X G z_bool, PySem.W.mg_none_of X G z_list, PySem.W.mg_none_of X G z_tuple, PySem.W.mg_none_of X G z_len, PySem.W.mg_none_of X G z_range, PySem.W.mg_none_of X G z_enumerate, PySem.W.mg_none_of X G z_reversed, PySem.W.mg_none_of X G z_all, PySem.W.mg_none_of X G z_abs, PySem.W.mg_none_of X G z_max, PySem.W.mg_none_of X G z_min, PySem.W.mg_none_of X G z_set, PySem.W.mg_none_of X G z_repr⟩
  k_MOST_VALUE := by obtain ⟨u, e, r⟩ := q_MOST_VALUE; exact ⟨u, PySem.W.mg_of X G e, r⟩
  b_sum := PySem.W.mg_none_of X G z_sum
  b_sorted := PySem.W.mg_none_of X G z_sorted
  int := d_int.fx X G (fun _ _ _ _ _ _ us hl => match us, hl with | [_], _ => rfl)
  num := d_num.fx X G (fun _ _ _ _ _ _ us hl => match us, hl with | [_], _ => rfl)
  seq := d_seq.fx X G (fun _ _ _ _ _ _ us hl => match us, hl with | [_], _ => rfl)
  par := d_par.fx X G (fun _ _ _ _ _ _ us hl => match us, hl with | [_, _], _ => rfl)
  nn := d_nn.fx X G (fun _ _ _ _ _ _ us hl => match us, hl with | [_], _ => rfl)
  ik := d_ik.fx X G (fun _ _ _ _ _ _ us hl => match us, hl with | [_], _ => rfl)
  nk := d_nk.fx X G (fun _ _ _ _ _ _ us hl => match us, hl with | [_], _ => rfl)
  co := d_co.fx X G (fun _ _ _ _ _ _ us hl => match us, hl with | [_, _], _ => rfl)
  sf := d_sf.fx X G (fun _ _ _ _ _ _ us hl => match us, hl with | [_, _, _], _ => rfl)
  st := d_st.fx X G (fun _ _ _ _ _ _ us hl => match us, hl with | [_], _ => rfl)
  fo := d_fo.fx X G (fun _ _ _ _ _ _ us hl => match us, hl with | [_, _], _ => rfl)
  rd := d_rd.fx X G (fun _ _ _ _ _ _ us hl => match us, hl with | [_], _ => rfl)
  sz := d_sz.fx X G (fun _ _ _ _ _ _ us hl => match us, hl with | [_], _ => rfl)
  su := d_su.fx X G (fun _ _ _ _ _ _ us hl => match us, hl with | [_, _, _, _], _ => rfl)
  en := d_en.fx X G (fun _ _ _ _ _ _ us hl => match us, hl with | [_, _], _ => rfl)
  sp := d_sp.fx X G (fun _ _ _ _ _ _ us hl => match us, hl with | [_], _ => rfl)
  rs := d_rs.fx X G (fun _ _ _ _ _ _ us hl => match us, hl with | [_, _], _ => rfl)
  be := d_be.fx X G (fun _ _ _ _ _ _ us hl => match us, hl with | [_], _ => rfl)
  al := d_al.fx X G (fun _ _ _ _ _ _ us hl => match us, hl with | [_], _ => rfl)
  jo := d_jo.fx X G (fun _ _ _ _ _ _ us hl => match us, hl with | [_, _], _ => rfl)
  es := d_es.fx X G (fun _ _ _ _ _ _ us hl => match us, hl with | [], _ => rfl)
  so := d_so.fx X G (fun _ _ _ _ _ _ us hl => match us, hl with | [_], _ => rfl)
  iss := d_iss.fx X G (fun _ _ _ _ _ _ us hl => match us, hl with | [_, _], _ => rfl)
  se := d_se.fx X G (fun _ _ _ _ _ _ us hl => match us, hl with | [_, _], _ => rfl)
  la := d_la.fk X G (fun _ _ _ _ _ _ us hl => match us, hl with | [_, _, _, _], _ => rfl) (fun _ _ _ _ _ _ us hl => match us, hl with | [_, _, _, _], _ => rfl) (by decide)
  lg := d_lg.fk X G (fun _ _ _ _ _ _ us hl => match us, hl with | [_, _], _ => rfl) (fun _ _ _ _ _ _ us hl => match us, hl with | [_, _], _ => rfl) (by decide)
  sw := d_sw.fk X G (fun _ _ _ _ _ _ us hl => match us, hl with | [_, _], _ => rfl) (fun _ _ _ _ _ _ us hl => match us, hl with | [_, _], _ => rfl) (by decide)
  laa := d_laa.fk X G (fun _ _ _ _ _ _ us hl => match us, hl with | [_, _], _ => rfl) (fun _ _ _ _ _ _ us hl => match us, hl with | [_, _], _ => rfl) (by decide)
  box := d_box.fx X G (fun _ _ _ _ _ _ us hl => match us, hl with | [_, _], _ => rfl)
  take := d_take.fx X G (fun _ _ _ _ _ _ us hl => match us, hl with | [_, _], _ => rfl)
  pick := d_pick.fx X G (fun _ _ _ _ _ _ us hl => match us, hl with | [_, _], _ => rfl)
  ll := d_ll.fx X G (fun _ _ _ _ _ _ us hl => match us, hl with | [_, _, _], _ => rfl)
  ls := d_ls.fx X G (fun _ _ _ _ _ _ us hl => match us, hl with | [_, _, _, _], _ => rfl)
  lh := d_lh.fx X G (fun _ _ _ _ _ _ us hl => match us, hl with | [_], _ => rfl)
  asp := ⟨f0, _, ⟨⟨oc0, od0, kV0, dc0, pm0, an0, ct0, sl0, rfl, l_asp, c_asp⟩, k_asp⟩, (fun_mk (st := sAreSpans) l_asp c_asp k_asp).binds (fun _ _ _ _ _ _ us hl => match us, hl with | [_], _ => rfl), PySem.W.mg_of X G a_asp⟩
  ish := ⟨f1, _, ⟨⟨oc1, od1, kV1, dc1, pm1, an1, ct1, sl1, rfl, l_ish, c_ish⟩, k_ish⟩, (fun_mk (st := sIsShape) l_ish c_ish k_ish).binds (fun _ _ _ _ _ _ us hl => match us, hl with | [_, _, _], _ => rfl), PySem.W.mg_of X G a_ish⟩
theorem fin {K : PySem.W.Frag} {h : Heap} {mg : Str → Option Value} {fa f4 : Addr} {od4 an4 : Option Addr} {sl4 : Array (Option Value)} {oc4 kV4 dc4 pm4 cd4 ct4 : Value} {f0 c0 : Addr} {od0 an0 : Option Addr} {sl0 : Array (Option Value)} {oc0 kV0 dc0 pm0 ct0 : Value} {f1 c1 : Addr} {od1 an1 : Option Addr} {sl1 : Array (Option Value)} {oc1 kV1 dc1 pm1 ct1 : Value} {T0 : Addr} {cc0 : Value} {oe0 : Option Addr} {vs0 : Array Value} {sm0 : Array (Option Value)} {T1 : Addr} {cc1 : Value} {oe1 : Option Addr} {vs1 : Array Value} {sm1 : Array (Option Value)} (X : K.In h) (G : h.Ns mainGlobals mg) (hfa : mg "law" = some (.ref fa))
    (a4 : PySem.W.nsIn K mainGlobals "law" = some (some (.ref f4))) (l4 : K.lookup f4 = some ⟨oc4, od4, .func (PySem.W.fnOf "law" "law" (defArgs sLaw) (defBody sLaw) (defScope sLaw) .none kV4 dc4 pm4 an4 cd4 ct4), sl4⟩) (c4 : PySem.W.codeIn K cd4 "law" = true) (k4 : PySem.W.keepIn K (.ref f4) = true)
    (d_int : DefIn K "is_integer" sIsInteger)
    (d_num : DefIn K "is_number" sIsNumber)
    (d_seq : DefIn K "is_sequence" sIsSequence)
    (d_par : DefIn K "is_of_parts" sIsOfParts)
    (d_nn : DefIn K "need_number" sNeedNumber)
    (d_ik : DefIn K "is_keep" sIsKeep)
    (d_nk : DefIn K "need_keep" sNeedKeep)
    (d_co : DefIn K "counts_of" sCountsOf)
    (d_sf : DefIn K "shape_from" sShapeFrom)
    (d_st : DefIn K "is_stretch" sIsStretch)
    (d_fo : DefIn K "first_of" sFirstOf)
    (d_rd : DefIn K "is_reading" sIsReading)
    (d_sz : DefIn K "is_size" sIsSize)
    (d_su : DefIn K "sums_with" sSumsWith)
    (d_en : DefIn K "ends_of" sEndsOf)
    (d_sp : DefIn K "is_span" sIsSpan)
    (d_rs : DefIn K "row_span" sRowSpan)
    (d_be : DefIn K "behind" sBehind)
    (d_al : DefIn K "span_of_all" sSpanOfAll)
    (d_jo : DefIn K "join" sJoin)
    (d_es : DefIn K "empty_store" sEmptyStore)
    (d_so : DefIn K "shape_of" sShapeOf)
    (d_iss : DefIn K "is_store" sIsStore)
    (d_se : DefIn K "settled" sSettled)
    (d_la : DefIn K "lay" sLay)
    (d_lg : DefIn K "let_go" sLetGo)
    (d_sw : DefIn K "span_with" sSpanWith)
    (d_laa : DefIn K "laid_all" sLaidAll)
    (d_box : DefIn K "_law_box" sBox)
    (d_take : DefIn K "_law_take" sTake)
    (d_pick : DefIn K "_law_pick" sPick)
    (d_ll : DefIn K "_law_laid" sLawLaid)
    (d_ls : DefIn K "_law_store" sLawStore)
    (d_lh : DefIn K "_law_handed" sLawHanded)
    (a_asp : PySem.W.nsIn K mainGlobals "are_spans" = some (some (.ref f0))) (l_asp : K.lookup f0 = some ⟨oc0, od0, .func (PySem.W.fnOf "are_spans" "are_spans" (defArgs sAreSpans) (defBody sAreSpans) (defScope sAreSpans) .none kV0 dc0 pm0 an0 (.ref c0) ct0), sl0⟩) (c_asp : PySem.W.codeIn K (.ref c0) "are_spans" = true) (k_asp : PySem.W.keepIn K (.ref f0) = true)
    (a_ish : PySem.W.nsIn K mainGlobals "is_shape" = some (some (.ref f1))) (l_ish : K.lookup f1 = some ⟨oc1, od1, .func (PySem.W.fnOf "is_shape" "is_shape" (defArgs sIsShape) (defBody sIsShape) (defScope sIsShape) .none kV1 dc1 pm1 an1 (.ref c1) ct1), sl1⟩) (c_ish : PySem.W.codeIn K (.ref c1) "is_shape" = true) (k_ish : PySem.W.keepIn K (.ref f1) = true)
    (q_MOST_VALUE : ∃ u, PySem.W.nsIn K mainGlobals "MOST_VALUE" = some (some u) ∧ RelV (.int 1000000) u)
    (z_isinstance : PySem.W.nsIn K mainGlobals "isinstance" = some none)
    (z_int : PySem.W.nsIn K mainGlobals "int" = some none)
    (z_bool : PySem.W.nsIn K mainGlobals "bool" = some none)
    (z_list : PySem.W.nsIn K mainGlobals "list" = some none)
    (z_tuple : PySem.W.nsIn K mainGlobals "tuple" = some none)
    (z_len : PySem.W.nsIn K mainGlobals "len" = some none)
    (z_range : PySem.W.nsIn K mainGlobals "range" = some none)
    (z_enumerate : PySem.W.nsIn K mainGlobals "enumerate" = some none)
    (z_reversed : PySem.W.nsIn K mainGlobals "reversed" = some none)
    (z_all : PySem.W.nsIn K mainGlobals "all" = some none)
    (z_abs : PySem.W.nsIn K mainGlobals "abs" = some none)
    (z_max : PySem.W.nsIn K mainGlobals "max" = some none)
    (z_min : PySem.W.nsIn K mainGlobals "min" = some none)
    (z_set : PySem.W.nsIn K mainGlobals "set" = some none)
    (z_repr : PySem.W.nsIn K mainGlobals "repr" = some none)
    (z_sum : PySem.W.nsIn K mainGlobals "sum" = some none)
    (z_sorted : PySem.W.nsIn K mainGlobals "sorted" = some none)
    (m_asp : K.lookup c0 = some ⟨cc0, oe0, .fields vs0, sm0⟩) (h_asp : (vs0[11]? : Option Value) = some (.ref T0)) (n_asp : K.lookup T0 = none)
    (m_ish : K.lookup c1 = some ⟨cc1, oe1, .fields vs1, sm1⟩) (h_ish : (vs1[11]? : Option Value) = some (.ref T1)) (n_ish : K.lookup T1 = none)
    (ne01 : T0 ≠ T1)
    : ∃ (fd : FuncData) (c0 T0 : Addr) (c1 T1 : Addr), Fun K "law" "law" sLaw fa fd ∧ (∀ (s : Shared) (u : Value), BindsTo s fd ⟨[u], []⟩ [("_law_script", u)]) ∧ AllF K mg c0 c1 ∧ PySem.W.tabIn K "are_spans" = some (c0, T0) ∧ K.lookup T0 = none ∧ PySem.W.tabIn K "is_shape" = some (c1, T1) ∧ K.lookup T1 = none ∧ T0 ≠ T1 := by
  have e := hfa.symm.trans (PySem.W.mg_of X G a4)
  cases e
  exact ⟨_, c0, T0, c1, T1, fun_mk (st := sLaw) l4 c4 k4, fun s v => .of_eq rfl, allf X G d_int d_num d_seq d_par d_nn d_ik d_nk d_co d_sf d_st d_fo d_rd d_sz d_su d_en d_sp d_rs d_be d_al d_jo d_es d_so d_iss d_se d_la d_lg d_sw d_laa d_box d_take d_pick d_ll d_ls d_lh a_asp l_asp c_asp k_asp a_ish l_ish c_ish k_ish q_MOST_VALUE z_isinstance z_int z_bool z_list z_tuple z_len z_range z_enumerate z_reversed z_all z_abs z_max z_min z_set z_repr z_sum z_sorted, tab_mk a_asp l_asp rfl m_asp h_asp, n_asp, tab_mk a_ish l_ish rfl m_ish h_ish, n_ish, ne01⟩
end K09
open PySem PySem.W PyProof.Rows in
set_option maxRecDepth 100000 in
set_option maxHeartbeats 0 in
theorem PySem.Challenge.cw_farstory_k09_whole_stores_beside_all_row_holds : PySem.Challenge.rw_farstory_k09_whole_stores_beside_all_row.Holds := by
  w_on; o_law; k_head; (case hw => w_witness2)
  k_fill
  refine K09.walk (l := PySem.Challenge.rw_farstory_k09_whole_stores_beside_all_row) rfl rfl rfl rfl (fun w h Y => PySem.W.kIn_of Y) ?F
  case F =>
    intro w mg fa h KX G hmg
    refine' K09.fin KX G hmg ?a4 ?l4 ?c4 ?k4 ?d_int ?d_num ?d_seq ?d_par ?d_nn ?d_ik ?d_nk ?d_co ?d_sf ?d_st ?d_fo ?d_rd ?d_sz ?d_su ?d_en ?d_sp ?d_rs ?d_be ?d_al ?d_jo ?d_es ?d_so ?d_iss ?d_se ?d_la ?d_lg ?d_sw ?d_laa ?d_box ?d_take ?d_pick ?d_ll ?d_ls ?d_lh ?a_asp ?l_asp ?c_asp ?k_asp ?a_ish ?l_ish ?c_ish ?k_ish ?q_MOST_VALUE ?z_isinstance ?z_int ?z_bool ?z_list ?z_tuple ?z_len ?z_range ?z_enumerate ?z_reversed ?z_all ?z_abs ?z_max ?z_min ?z_set ?z_repr ?z_sum ?z_sorted ?m_asp ?h_asp ?n_asp ?m_ish ?h_ish ?n_ish ?ne01
    (case a4 => k_is)
    (case l4 => k_is)
    (case c4 => k_is)
    (case k4 => k_is)
    (case d_int => refine' K09.DefIn.mk ?a ?l ?c ?k; (case a => k_is); (case l => k_is); (case c => k_is); (case k => k_is))
    (case d_num => refine' K09.DefIn.mk ?a ?l ?c ?k; (case a => k_is); (case l => k_is); (case c => k_is); (case k => k_is))
    (case d_seq => refine' K09.DefIn.mk ?a ?l ?c ?k; (case a => k_is); (case l => k_is); (case c => k_is); (case k => k_is))
    (case d_par => refine' K09.DefIn.mk ?a ?l ?c ?k; (case a => k_is); (case l => k_is); (case c => k_is); (case k => k_is))
    (case d_nn => refine' K09.DefIn.mk ?a ?l ?c ?k; (case a => k_is); (case l => k_is); (case c => k_is); (case k => k_is))
    (case d_ik => refine' K09.DefIn.mk ?a ?l ?c ?k; (case a => k_is); (case l => k_is); (case c => k_is); (case k => k_is))
    (case d_nk => refine' K09.DefIn.mk ?a ?l ?c ?k; (case a => k_is); (case l => k_is); (case c => k_is); (case k => k_is))
    (case d_co => refine' K09.DefIn.mk ?a ?l ?c ?k; (case a => k_is); (case l => k_is); (case c => k_is); (case k => k_is))
    (case d_sf => refine' K09.DefIn.mk ?a ?l ?c ?k; (case a => k_is); (case l => k_is); (case c => k_is); (case k => k_is))
    (case d_st => refine' K09.DefIn.mk ?a ?l ?c ?k; (case a => k_is); (case l => k_is); (case c => k_is); (case k => k_is))
    (case d_fo => refine' K09.DefIn.mk ?a ?l ?c ?k; (case a => k_is); (case l => k_is); (case c => k_is); (case k => k_is))
    (case d_rd => refine' K09.DefIn.mk ?a ?l ?c ?k; (case a => k_is); (case l => k_is); (case c => k_is); (case k => k_is))
    (case d_sz => refine' K09.DefIn.mk ?a ?l ?c ?k; (case a => k_is); (case l => k_is); (case c => k_is); (case k => k_is))
    (case d_su => refine' K09.DefIn.mk ?a ?l ?c ?k; (case a => k_is); (case l => k_is); (case c => k_is); (case k => k_is))
    (case d_en => refine' K09.DefIn.mk ?a ?l ?c ?k; (case a => k_is); (case l => k_is); (case c => k_is); (case k => k_is))
    (case d_sp => refine' K09.DefIn.mk ?a ?l ?c ?k; (case a => k_is); (case l => k_is); (case c => k_is); (case k => k_is))
    (case d_rs => refine' K09.DefIn.mk ?a ?l ?c ?k; (case a => k_is); (case l => k_is); (case c => k_is); (case k => k_is))
    (case d_be => refine' K09.DefIn.mk ?a ?l ?c ?k; (case a => k_is); (case l => k_is); (case c => k_is); (case k => k_is))
    (case d_al => refine' K09.DefIn.mk ?a ?l ?c ?k; (case a => k_is); (case l => k_is); (case c => k_is); (case k => k_is))
    (case d_jo => refine' K09.DefIn.mk ?a ?l ?c ?k; (case a => k_is); (case l => k_is); (case c => k_is); (case k => k_is))
    (case d_es => refine' K09.DefIn.mk ?a ?l ?c ?k; (case a => k_is); (case l => k_is); (case c => k_is); (case k => k_is))
    (case d_so => refine' K09.DefIn.mk ?a ?l ?c ?k; (case a => k_is); (case l => k_is); (case c => k_is); (case k => k_is))
    (case d_iss => refine' K09.DefIn.mk ?a ?l ?c ?k; (case a => k_is); (case l => k_is); (case c => k_is); (case k => k_is))
    (case d_se => refine' K09.DefIn.mk ?a ?l ?c ?k; (case a => k_is); (case l => k_is); (case c => k_is); (case k => k_is))
    (case d_la => refine' K09.DefIn.mk ?a ?l ?c ?k; (case a => k_is); (case l => k_is); (case c => k_is); (case k => k_is))
    (case d_lg => refine' K09.DefIn.mk ?a ?l ?c ?k; (case a => k_is); (case l => k_is); (case c => k_is); (case k => k_is))
    (case d_sw => refine' K09.DefIn.mk ?a ?l ?c ?k; (case a => k_is); (case l => k_is); (case c => k_is); (case k => k_is))
    (case d_laa => refine' K09.DefIn.mk ?a ?l ?c ?k; (case a => k_is); (case l => k_is); (case c => k_is); (case k => k_is))
    (case d_box => refine' K09.DefIn.mk ?a ?l ?c ?k; (case a => k_is); (case l => k_is); (case c => k_is); (case k => k_is))
    (case d_take => refine' K09.DefIn.mk ?a ?l ?c ?k; (case a => k_is); (case l => k_is); (case c => k_is); (case k => k_is))
    (case d_pick => refine' K09.DefIn.mk ?a ?l ?c ?k; (case a => k_is); (case l => k_is); (case c => k_is); (case k => k_is))
    (case d_ll => refine' K09.DefIn.mk ?a ?l ?c ?k; (case a => k_is); (case l => k_is); (case c => k_is); (case k => k_is))
    (case d_ls => refine' K09.DefIn.mk ?a ?l ?c ?k; (case a => k_is); (case l => k_is); (case c => k_is); (case k => k_is))
    (case d_lh => refine' K09.DefIn.mk ?a ?l ?c ?k; (case a => k_is); (case l => k_is); (case c => k_is); (case k => k_is))
    (case a_asp => k_is)
    (case l_asp => k_is)
    (case c_asp => k_is)
    (case k_asp => k_is)
    (case a_ish => k_is)
    (case l_ish => k_is)
    (case c_ish => k_is)
    (case k_ish => k_is)
    (case q_MOST_VALUE => refine' K09.cst_mk ?e ?r; (case e => k_is); (case r => exact ⟨_, rfl⟩))
    (case z_isinstance => k_is)
    (case z_int => k_is)
    (case z_bool => k_is)
    (case z_list => k_is)
    (case z_tuple => k_is)
    (case z_len => k_is)
    (case z_range => k_is)
    (case z_enumerate => k_is)
    (case z_reversed => k_is)
    (case z_all => k_is)
    (case z_abs => k_is)
    (case z_max => k_is)
    (case z_min => k_is)
    (case z_set => k_is)
    (case z_repr => k_is)
    (case z_sum => k_is)
    (case z_sorted => k_is)
    (case m_asp => k_is)
    (case h_asp => exact rfl)
    (case n_asp => kernel_rfl)
    (case m_ish => k_is)
    (case h_ish => exact rfl)
    (case n_ish => kernel_rfl)
    (case ne01 => decide)
