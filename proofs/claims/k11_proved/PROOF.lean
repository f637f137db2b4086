import PyProof.Rows.All
import Wide.All
import OpenK.AllK
import Wide.FinOn
import HandS.ForMost
import HandS.IsInst
import HandS.AnyAll
import HandS.Evl
import PyProof.GenCompD
import PyProof.WalksMore
import HandS.EndTab
import PyProof.Rows.NestShow
import PyProof.ReprLen
import PyProof.ReprBulk
import KE.GoesMore
import HandS.Zip
import HandS.TryOnly
import HandS.Strs
import HandS.Wide
import HandS.Walk
import HandS.TupLe
import HandS.ExcInit
import HandS.ExcField
import HandS.Lambda
import HandS.CallLocal
import PyProof.CallFns
import HandS.ExcIs
import HandS.WordsExc
import KE.KExcIs
import HandS.SetFor
import HandS.Conv
import HandS.Deep
import PyProof.SumWalkG
import PyProof.Rows.Chain
import HandS.TupAny
import KE.DataEq
import KE.KTupSum
import HandS.Style
import HandS.SortInts
import PySem.Challenge.RW_farstory_k11_whole_bounds_that_are_met
set_option Elab.async false
set_option linter.all false
set_option maxRecDepth 100000
set_option maxHeartbeats 4000000
/-! Pure expressions and pure defs, whatever runs around them; all(f(x) for x in e). -/
namespace Pu
open PySem PySem.Spec PyProof.Rows L2

/-- what stands in g stands in h -/
abbrev Ext (g h : Heap) : Prop := ∀ b o, g.get? b = some o → h.get? b = some o
/-- from any heap over g the expression is worth v, and what stood stays -/
def EV (P : Program) (w : World) (A : Around) (env : Env) (g : Heap) (e : Expr) (v : V) : Prop :=
  ∀ (s : Shared) (Q : Value → Shared → Prop) (E : Value → Shared → Prop), Ext g s.heap →
    (∀ u h' tk, RelV v u → Ext s.heap h' → Q u { s with heap := h', toks := tk }) → wpAny (model P w) A (eval e env) Q E s
/-- arguments -/
def EA (P : Program) (w : World) (A : Around) (env : Env) (g : Heap) (es : List Expr) (vs : List V) : Prop :=
  ∀ (pos : Pos) (s : Shared) (Q : List Value → Shared → Prop) (E : Value → Shared → Prop), Ext g s.heap →
    (∀ us h' tk, Vals vs us → Ext s.heap h' → Q us { s with heap := h', toks := tk }) → wpAny (model P w) A (spliced (backTo pos (starEach es env))) Q E s
/-- a pure def: called with vs at a heap over g it gives v -/
structure PF (P : Program) (w : World) (K : PySem.W.Frag) (mg : Str → Option Value) (base : Heap) (k : Nat) (f : Addr) (fd : FuncData) (ps : List Str) (sp : List V → Heap → V → Prop) : Prop where
  run : ∀ (A : Around) (s : Shared) (args : Args) (us : List Value) (vs : List V) (v : V) (R : Result → Shared → Prop), Room k A → Ext base s.heap → BindsTo s fd args (ps.zip us) → Vals vs us → vs.length = ps.length → sp vs s.heap v →
    (∀ u h' tk, RelV v u → Ext s.heap h' → R (.ok (.ret u)) { s with heap := h', toks := tk }) → codeAny (model P w) A (.call (.ref f) args) R s

/-- the frame of a pure body -/
structure FrP (K : PySem.W.Frag) (mg : Str → Option Value) (base : Heap) (A : Around) (env : Env) (g : Heap) : Prop where
  mod : L2.Mod K mg base
  ext : Ext base g
  kind : env.scope.kind = .function
  glob : env.globals = mainGlobals
  blt : env.builtins = builtinsNs
  hd : A.handled = none

section
variable {P : Program} {w : World} {K : PySem.W.Frag} {mg : Str → Option Value} {base : Heap} {A : Around} {env : Env} {g : Heap}
theorem ev_loc {x : Str} {pos : Pos} {m : Str → Option Value} {u : Value} {v : V} (F : FrP K mg base A env g) (hl : env.kindOf x = some .local) (hn : g.Ns env.locals m) (hm : m x = some u) (r : RelV v u)
    (hd : (x == ("__debug__" : Str)) = false := by decide) : EV P w A env g (.Name x pos) v := fun s Q E hx hQ =>
  wpAny_Name (wpAny_loadName_local F.kind hl (hn.keeps hx) hm (hQ u s.heap s.toks r fun _ _ e => e)) hd
theorem ev_int {i : Int} {k : Nat} {pos : Pos} : EV P w A env g (.Constant (.int i) k pos) (.int i) := fun s Q E hx hQ =>
  wpAny_Constant_int (hQ _ s.heap (s.toks + 1) ⟨_, rfl⟩ fun _ _ e => e)
theorem ev_blt {x : Str} {pos : Pos} {u : Value} {v : V} (F : FrP K mg base A env g) (hg : env.kindOf x = some .globalImplicit) (hm : mg x = none) (hv : bootBuiltins x = some u) (r : RelV v u) (hn : x ≠ "__name__" := by decide)
    (hd : (x == ("__debug__" : Str)) = false := by decide) : EV P w A env g (.Name x pos) v := fun s Q E hx hQ => by
  obtain ⟨mb, h1, h2⟩ := F.mod.blt
  have hb : Ext base s.heap := fun b o e => hx b o (F.ext b o e)
  exact Calls.Name_function_global F.kind hg (Calls.loadGlobal_builtin (by rw [F.glob]; exact F.mod.glob.keeps hb) hm (by rw [F.blt]; exact h1.keeps hb) ((h2 x hn).trans hv) (hQ u s.heap s.toks r fun _ _ e => e)) hd
theorem ev_and {a b : Expr} {rest : List Expr} {pos : Pos} {x y : Bool} (ha : EV P w A env g a (.bl x)) (hb : x = true → EV P w A env g (.BoolOp .And (b :: rest) pos) (.bl y)) :
    EV P w A env g (.BoolOp .And (a :: b :: rest) pos) (.bl (x && y)) := fun s Q E hx hQ => by
  refine BoolOp_and (ha s _ E hx fun u h' tk r hk => ?_)
  cases (show u = Value.bool x from r)
  refine wpAny_truthy_bool ?_
  cases x with
  | false => exact hQ _ h' tk rfl hk
  | true => exact hb rfl { s with heap := h', toks := tk } Q E (fun b o e => hk b o (hx b o e)) fun u h2 t2 r2 k2 => hQ u h2 t2 r2 fun b o e => k2 b o (hk b o e)
theorem ev_one {op : BoolOp} {a : Expr} {pos : Pos} {v : V} (h : EV P w A env g a v) : EV P w A env g (.BoolOp op [a] pos) v := fun s Q E hx hQ => BoolOp_one (h s Q E hx hQ)
theorem ev_not {a : Expr} {pos : Pos} {x : Bool} (ha : EV P w A env g a (.bl x)) : EV P w A env g (.UnaryOp .Not a pos) (.bl (!x)) := fun s Q E hx hQ => by
  refine UnaryOp_ (ha s _ E hx fun u h' tk r hk => ?_)
  cases (show u = Value.bool x from r)
  exact not_of (wpAny_truthy_bool (hQ _ h' tk rfl hk))
theorem ev_ge {a b : Expr} {pos : Pos} {i j : Int} (ha : EV P w A env g a (.int i)) (hb : EV P w A env g b (.int j)) (hm : behindInMarks .GtE b = false := by first | exact nobehind _ (by decide) (by decide) | rfl) :
    EV P w A env g (.Compare a [.GtE] [b] pos) (.bl (decide (i ≥ j))) := fun s Q E hx hQ => by
  refine wpAny_Compare1 (ha s _ E hx fun u h' tk r hk => ?_) hm
  refine hb { s with heap := h', toks := tk } _ E (fun b o e => hk b o (hx b o e)) fun u2 h2 t2 r2 k2 => ?_
  obtain ⟨t, rfl⟩ := r
  obtain ⟨t', rfl⟩ := r2
  exact ge_int (hQ _ h2 t2 rfl fun b o e => k2 b o (hk b o e))
theorem ev_eqI {a b : Expr} {pos : Pos} {i j : Int} (ha : EV P w A env g a (.int i)) (hb : EV P w A env g b (.int j)) (hm : behindInMarks .Eq b = false := by first | exact nobehind _ (by decide) (by decide) | rfl) :
    EV P w A env g (.Compare a [.Eq] [b] pos) (.bl (decide (i = j))) := fun s Q E hx hQ => by
  refine wpAny_Compare1 (ha s _ E hx fun u h' tk r hk => ?_) hm
  refine hb { s with heap := h', toks := tk } _ E (fun b o e => hk b o (hx b o e)) fun u2 h2 t2 r2 k2 => ?_
  obtain ⟨t, rfl⟩ := r
  obtain ⟨t', rfl⟩ := r2
  exact eq_int (by rw [Bool.beq_eq_decide_eq]; exact hQ _ h2 t2 rfl fun b o e => k2 b o (hk b o e))
theorem ea_nil : EA P w A env g [] [] := fun pos s Q E hx hQ => Calls.spliced_nil (hQ [] s.heap s.toks .nil fun _ _ e => e)
theorem ea_cons {e : Expr} {es : List Expr} {v : V} {vs : List V} (ha : EV P w A env g e v) (hr : EA P w A env g es vs) (hs : starEach (e :: es) env = (false, eval e env) :: starEach es env := by rfl) : EA P w A env g (e :: es) (v :: vs) := fun pos s Q E hx hQ => by
  rw [hs]
  show wpAny _ _ (spliced ((false, eval e env) :: backTo pos (starEach es env))) _ _ s
  refine Calls.spliced_cons (ha s _ E hx fun u h' tk r hk => ?_)
  exact hr pos { s with heap := h', toks := tk } _ E (fun b o e => hk b o (hx b o e)) fun us h2 t2 r2 k2 => hQ (u :: us) h2 t2 (.cons r r2) fun b o e => k2 b o (hk b o e)
/-- a built-in by its name -/
theorem ev_bltcall {id : String} {x : Str} {p pos : Pos} {e : Expr} {es : List Expr} {vs : List V} {z : V} (F : FrP K mg base A env g) (hg : env.kindOf x = some .globalImplicit) (hm : mg x = none) (hv : bootBuiltins x = some (.builtin id))
    (ha : EA P w A env g (e :: es) vs)
    (hc : ∀ (s : Shared) (us : List Value) (Q : Value → Shared → Prop) (E : Value → Shared → Prop), Ext g s.heap → Vals vs us → (∀ u h' tk, RelV z u → Ext s.heap h' → Q u { s with heap := h', toks := tk }) → wpAny (model P w) A (call (.builtin id) us) Q E s)
    (hn : x ≠ "__name__" := by decide) (hd : (x == ("__debug__" : Str)) = false := by decide)
    (he : starEach (e :: es) env = (false, eval e env) :: starEach es env := by rfl) (hpl : (backTo pos (starEach es env)).any (·.1) = false := by rfl) : EV P w A env g (.Call (.Name x p) (e :: es) [] pos) z := fun s Q E hx hQ => by
  obtain ⟨mb, h1, h2⟩ := F.mod.blt
  have hb : Ext base s.heap := fun b o e => hx b o (F.ext b o e)
  refine wpAny_Call_Name_kw (Calls.Name_function_global F.kind hg (Calls.loadGlobal_builtin (by rw [F.glob]; exact F.mod.glob.keeps hb) hm (by rw [F.blt]; exact h1.keeps hb) ((h2 x hn).trans hv) ?_) hd)
  refine PyProof.Rows.callWith_builtin1 (ha pos s _ E hx fun us h' tk r hk => ?_) he hpl
  exact hc { s with heap := h', toks := tk } us Q E (fun b o e => hk b o (hx b o e)) r fun u h2 t2 r2 k2 => hQ u h2 t2 r2 fun b o e => k2 b o (hk b o e)
/-- a pure def by its name -/
theorem ev_pf {k : Nat} {f : Addr} {fd : FuncData} {ps : List Str} {sp : List V → Heap → V → Prop} {x : Str} {p pos : Pos} {e : Expr} {es : List Expr} {vs : List V} {z : V} (F : FrP K mg base A env g) (G : PF P w K mg base k f fd ps sp) (hr : Room k A)
    (hg : env.kindOf x = some .globalImplicit) (hm : mg x = some (.ref f)) (hk : PySem.W.keepIn K (.ref f) = true) (hb : Binds K fd ps []) (ha : EA P w A env g (e :: es) vs) (hl : vs.length = ps.length)
    (hsp : ∀ h, Ext g h → sp vs h z) (hd : (x == ("__debug__" : Str)) = false := by decide)
    (he : starEach (e :: es) env = (false, eval e env) :: starEach es env := by rfl) (hpl : (backTo pos (starEach es env)).any (·.1) = false := by rfl) : EV P w A env g (.Call (.Name x p) (e :: es) [] pos) z := fun s Q E hx hQ => by
  have hbs : Ext base s.heap := fun b o e => hx b o (F.ext b o e)
  refine wpAny_Call_Name_kw (Calls.Name_function_global F.kind hg (Calls.loadGlobal_global (by rw [F.glob]; exact F.mod.glob.keeps hbs) hm ?_) hd)
  refine PySem.W.callWith_K (h₀ := base) F.mod.kin hk (ha pos s _ E hx fun us h' tk r hk2 => ?_) he hpl
  have hx2 : Ext g h' := fun b o e => hk2 b o (hx b o e)
  have hb2 : Ext base h' := fun b o e => hx2 b o (F.ext b o e)
  refine ⟨F.mod.kin.keeps hb2, ?_⟩
  show wpAny _ _ (call (.ref f) us) _ _ _
  have hlu : (us ++ []).length = ps.length := by rw [List.append_nil, ← r.length]; exact hl
  have hbind := hb { s with heap := h', toks := tk } us (F.mod.kin.keeps hb2) hlu
  rw [List.append_nil] at hbind
  refine wpAny_call (codeAny_mono (G.run A { s with heap := h', toks := tk } ⟨us, []⟩ us vs z (fun r s' => ∃ u h2 t2, r = .ok (.ret u) ∧ RelV z u ∧ Ext h' h2 ∧ s' = { s with heap := h2, toks := t2 }) hr hb2 hbind r hl (hsp h' hx2) fun u h2 t2 r2 k2 => ⟨u, h2, t2, rfl, r2, k2, rfl⟩) fun r s' hq => ?_)
  obtain ⟨u, h2, t2, rfl, r2, k2, rfl⟩ := hq
  exact hQ u h2 t2 r2 fun b o e => k2 b o (hk2 b o e)
/-- a pure def of the text: its body is one return -/
theorem pf_ret {x qual : Str} {st : Stmt} {f : Addr} {fd : FuncData} {N ps : List Str} {k : Nat} {sp : List V → Heap → V → Prop} {e : Expr} {pos : Pos} (M : L2.Mod K mg base) (Fn : Fun K x qual st f fd) (S : FnScope N ps (defScope st)) (hst : defBody st = [.Return (some e) pos])
    (hloc : ∀ y ∈ ps, (defScope st).names.lookup y = some .local)
    (hbody : ∀ (cdv : Value) (A : Around) (L : Addr) (g : Heap) (us : List Value) (vs : List V) (v : V), Room k A → Ext base g → Vals vs us → vs.length = ps.length → sp vs g v →
      (∀ (i : Nat) (y : Str) (u : Value), ps[i]? = some y → us[i]? = some u → ∃ m, g.Ns (envOfC qual (defScope st) L f cdv).locals m ∧ m y = some u) → EV P w A (envOfC qual (defScope st) L f cdv) g e v)
    (hmono : ∀ vs g h v, Ext g h → sp vs g v → sp vs h v) : PF P w K mg base (k + 1) f fd ps sp := by
  obtain ⟨oc, od, kV, doc, pm, an, cdv, ct, osl, rfl, lk, hcd⟩ := Fn.ex
  refine ⟨fun A s args us vs v R hr hbs hb r hl hsp hR => ?_⟩
  have KX : K.In s.heap := M.kin.keeps hbs
  have lim : s.heap.NoLimit := M.nolimit.keeps hbs
  have ndP : ps.Nodup := by rw [← S.pre]; exact S.nd.sublist (List.take_sublist _ _)
  refine codeAny_call_function hr.depth (KX _ _ lk) rfl S.co S.gen rfl (PySem.W.codeRec_of KX hcd) (hb _ _ _ _ ?_)
  refine wpAny_newFunctionEnv_cells S.kind (fun ⟨n, z⟩ hy => .inl (hloc n (List.of_mem_zip hy).1)) fun env he s1 X => ?_
  subst he
  obtain ⟨h1, tk, e1, hk1⟩ := X.done
  refine ⟨lim.keeps X.toInCall.keep, codeAny_func ?_⟩
  rw [hst]
  refine wpAny_execs_cons (wpAny_Return_some ?_)
  have hns := X.toInCall.ns
  subst e1
  refine hbody cdv _ s.heap.objs.size h1 us vs v (hr.deeper _) (fun b o e => hk1 b o (hbs b o e)) r hl (hmono _ _ _ _ hk1 hsp) (fun i y u h2 h3 => ⟨_, hns, bindL_get ndP h2 h3 (hloc y (List.mem_of_getElem? h2))⟩) _ _ _ (fun _ _ e => e) fun u h' t' rv k' => ?_
  exact hR u h' t' rv fun b o e => k' b o (hk1 b o e)
end
end Pu
set_option Elab.async false
set_option linter.all false
set_option maxRecDepth 100000
set_option maxHeartbeats 4000000
/-! all(f(x) for x in e), e a tuple or a list, f(x) pure. -/
namespace Pu
open PySem PySem.Spec PyProof.Rows L2 GxR

section
variable {X : Cx} {pins : List (Addr × Obj)} {σ : L2.St} {H : Hp} {s : Shared}
/-- the walk of a tuple or a list, its iterator just made -/
theorem iter_any {A : Around} {a : Addr} {xs : List V} {Q : Value → Shared → Prop} {E : Value → Shared → Prop} (I : Inv X pins σ H s) (hq : SqT X.K H a xs ∨ SqL X.K H a xs)
    (hQ : ∀ (o : Obj) (its : List Value) (St : Nat → Heap → Prop), Vals xs its → a < s.heap.objs.size →
      (∀ B : Around, B.handled = none → Walks X.prog X.w B s.heap.objs.size [s.heap.objs.size, a] [s.heap.objs.size] its.toArray.size (fun i v => its.toArray[i]? = some v) St) →
      St 0 (s.heap.push o) → Q (.ref s.heap.objs.size) { s with heap := s.heap.push o }) : wpAny (model X.prog X.w) A (pyIter (.ref a)) Q E s := by
  rcases hq with hq | hq
  · obtain ⟨its, rv, p, hz⟩ := I.tuple hq
    have lt : a < s.heap.objs.size := p.lt
    have hne : a ≠ s.heap.objs.size := Nat.ne_of_lt lt
    refine wpAny_pyIter_tuple (show s.heap.IsTuple a its.toArray from p) ?_
    refine hQ _ its _ rv lt (fun B hB => Walks.tuple hB s.heap.objs.size a hne its.toArray) ⟨⟨_, Heap.get?_push_size _ rfl, rfl, rfl⟩, ?_⟩
    obtain ⟨o, ho, r⟩ := p
    exact ⟨o, Heap.get?_push_of_some _ ho, r⟩
  · obtain ⟨its, rv, p, hz⟩ := I.list hq
    obtain ⟨o1, n1, ho1, _⟩ := id p
    have lt : a < s.heap.objs.size := Heap.lt_size ho1
    have hne : a ≠ s.heap.objs.size := Nat.ne_of_lt lt
    refine wpAny_pyIter_list p.isList ?_
    refine hQ _ its _ rv lt (fun B hB => Walks.list hB s.heap.objs.size a hne its.toArray) ⟨⟨_, Heap.get?_push_size _ rfl, rfl, rfl⟩, ?_⟩
    exact (p.keeps fun b o e => Heap.get?_push_of_some _ e).isList

/-- the element's worth, item by item, from any frame of the generator -/
def Elt (X : Cx) (T : Addr) (sc : Scope) (x : Str) (elt : Expr) (k : Nat) (H1 : Hp) (xs : List V) (pb : Nat → Bool) : Prop :=
  ∀ (B : Around) (cenv : Env) (g : Heap) (i : Nat) (v : V) (u : Value), Room k B → cenv.scope = sc → cenv.globals = mainGlobals → cenv.builtins = builtinsNs → Ext X.base g →
    (∃ m, g.Ns cenv.locals m ∧ m x = some u) → xs[i]? = some v → RelV v u → (∀ b ho, b ≠ T → H1 b = some ho → ObjOk X.prog X.w H1 g b ho) → EV X.prog X.w B cenv g elt (.bl (pb i))
/-- a generator that is ready to be drawn from, n tests -/
def Drawn (X : Cx) (pins : List (Addr × Obj)) (σ : L2.St) (H1 : Hp) (T : Addr) (n : Nat) (pb : Nat → Bool) (g : Addr) (s5 : Shared) : Prop :=
  ∃ (fp wr : List Addr) (G : Array GenState → Array GenState → Prop) (F : Nat → Value → Prop) (St : Nat → Shared → Prop),
    WalksS X.prog X.w X.A.in1 g fp wr G n F St ∧ St 0 s5 ∧ TruthOf X.prog X.w X.A.in1 F pb ∧ ∀ s', Moved wr G s5 s' → ∃ H2, Tabbed T H1 H2 ∧ Inv X pins σ H2 s'

/-- the generator's code object, met already or made now: what is known of the heap behind it -/
theorem code_any {M : Model} {A : Around} {E : Value → Shared → Prop} {s : Shared} {env : Env} {c T : Addr} {ps : Array Value} {pos : Pos} {nm : Str} {sc : Scope} {Q : Value → Shared → Prop}
    (hc : env.code = .ref c) (hi : s.heap.IsCode c T ps) (ht : s.heap.TableAt c T ps) (ok : TriplesOk ps.toList) (hT : s.heap.get? T = some { cls := .none, data := .fields ps })
    (k : ∀ (code : Value) (h3 : Heap) (tk : Nat) (ps' : Array Value), Heap.ExtBut T s.heap h3 → s.heap.objs.size ≤ h3.objs.size → h3.get? T = some { cls := .none, data := .fields ps' } → (∃ more, ps' = ps ++ more) → TriplesOk ps'.toList →
      Q code { s with heap := h3, toks := tk }) : wpAny M A (genexprCode env pos nm sc) Q E s := by
  cases e : codeAmong pos ps.toList with
  | some old => exact wpAny_genexprCode_hit hc hi e (k old s.heap s.toks ps (Heap.ExtBut.refl _ _) (Nat.le_refl _) hT ⟨#[], by simp⟩ ok)
  | none =>
    refine wpAny_genexprCodeX hc hi ht e fun new h3 tk far lo hi' code' _ tab' _ => ?_
    have tr := code'
    obtain ⟨_, _, _, _, _, _, _, _, _, _, _, _, _, _, _, _, _, _, _, tr, _⟩ := tr
    exact k _ h3 tk _ far (by omega) tab'.2 ⟨_, rfl⟩ tr
theorem gen_seq {c T : Addr} {elt iter : Expr} {x : Str} {px gp : Pos} {sc : Scope} {te : TE} {k : Nat} {W : Value → Shared → Prop} {R : Hp → List V → (Nat → Bool) → Prop}
    (hr : Room (k + 1) X.A) (TB : TabB X.base X.mg c T) (hcode : X.env.code = .ref c) (S : GenS X.env sc x) (hi : PE X iter te) (hs : ∀ v, genFold iter X.env v = pure v) (I : Inv X pins σ H s)
    (h : te σ H fun v H1 => ∃ (a : Addr) (xs : List V) (pb : Nat → Bool), v = .ref a ∧ (SqT X.K H1 a xs ∨ SqL X.K H1 a xs) ∧ TabG H1 T ∧ Elt X T sc x elt k H1 xs pb ∧ R H1 xs pb)
    (hQ : ∀ H1 xs pb g s5, R H1 xs pb → Drawn X pins σ H1 T xs.length pb g s5 → W (.ref g) s5) :
    wpAny (model X.prog X.w) X.A (eval (.GeneratorExp elt [⟨.Name x px, iter, [], 0⟩] sc gp) X.env) W X.xe s := by
  refine wpAny_GeneratorExp_walksQD hr.hd S.co (closure_ok S.free) S.cell S.dot S.loc S.kind (by have := hr.dp; omega) ?_ hs
  refine thn (hi.run pins s σ H _ I h) fun xv s1 ⟨v, H1, I1, r1, q1⟩ => ?_
  obtain ⟨a, xs, pb, rfl, hsq, ⟨ps, hT, ht⟩, hel, hR⟩ := q1
  cases (show xv = Value.ref a from r1)
  refine iter_any I1 hsq fun o its St rv haLt Wk hst => ?_
  have hTs : s1.heap.get? T = some { cls := .none, data := .fields ps } := I1.hok T _ hT
  have hTlt : T < s1.heap.objs.size := Heap.lt_size hTs
  have hT2 : (s1.heap.push o).get? T = some { cls := .none, data := .fields ps } := Heap.get?_push_of_some _ hTs
  have push_keep : ∀ b u, s1.heap.get? b = some u → (s1.heap.push o).get? b = some u := fun b u e => Heap.get?_push_of_some _ e
  have cd : PySem.W.CodeHd (s1.heap.push o) c T := TB.code.keeps fun b u e => push_keep b u (I1.bk b u e)
  have lim2 : (s1.heap.push o).NoLimit := I1.nolimit.push o
  have noT : ∀ b u, X.base.get? b = some u → b ≠ T := fun b u e z => by
    have n := (I1.bs b u e).2
    rw [z, hT] at n
    cases n
  have hlen : its.toArray.size = xs.length := by rw [List.size_toArray, rv.length]
  refine ⟨lim2, code_any hcode (cd.code hT2 ht) (cd.tab hT2) ht hT2 fun code h3 tk ps' hx hsz hT3 hmore ht3 => ?_⟩
  obtain ⟨bm, ob, e1, e2, e3, e4, e5, e6, e7, e8⟩ := TB.bm
  have cneT : cStatics ≠ T := fun e => by
    obtain ⟨_, hns, _⟩ := I1.nolimit
    obtain ⟨o', es, ep, ho, hd, _⟩ := hns
    rw [e, hTs] at ho
    cases ho
    cases hd
  have cLt : cStatics < s1.heap.objs.size := let ⟨_, hns, _⟩ := I1.nolimit; hns.lt
  have sz2 : (s1.heap.push o).objs.size = s1.heap.objs.size + 1 := Heap.size_push ..
  have keep3 : ∀ b u, b ≠ T → s1.heap.get? b = some u → h3.get? b = some u := fun b u hb e => hx b u hb (push_keep b u e)
  refine wpAny_builtinsFor (m := X.mg) (by rw [I1.ok.glob]; exact ((I1.mod.glob.keeps I1.bk).push o).extBut hx TB.gP) e1 e2 (keep3 _ _ e4 (I1.bk _ _ e5)) e6 e7 e8 ?_
  have aneT : a ≠ T := fun z => by
    rcases hsq with q | q
    · rcases q with (q | ⟨_, q⟩) | ⟨_, _, _, hk, _⟩
      · rw [z, hT] at q; cases q
      · rw [z, hT] at q; cases q
      · exact noT a _ (I1.mod.kin a _ hk) z
    · rcases q with (q | ⟨_, q⟩) | ⟨_, _, _, hk, _⟩
      · rw [z, hT] at q; cases q
      · rw [z, hT] at q; cases q
      · exact noT a _ (I1.mod.kin a _ hk) z
  have sLt : s1.heap.objs.size < h3.objs.size := Nat.lt_of_lt_of_le (by rw [sz2]; exact Nat.lt_succ_self _) hsz
  have Wk2 : ∀ B : Around, B.handled = none → Walks X.prog X.w B s1.heap.objs.size [s1.heap.objs.size, a] [s1.heap.objs.size] xs.length (fun i v => its.toArray[i]? = some v) St := hlen ▸ Wk
  refine ⟨s1.heap.objs.size, [s1.heap.objs.size, a], [s1.heap.objs.size], xs.length, (fun i v => its.toArray[i]? = some v), St, (fun _ => true), (fun i y => y = .bool (pb i)), rfl, Wk2, ?_, ?_, lim2.extBut hx cneT, ?_, ?_, ?_⟩
  · refine (Wk2 X.A hr.hd).frame _ _ _ hst fun b hb u e => hx b u (fun z => ?_) e
    rcases List.mem_cons.mp hb with z2 | z2
    · exact Nat.ne_of_lt hTlt (z.symm.trans z2)
    · rcases List.mem_cons.mp z2 with z2 | z2
      · exact aneT (z2.symm.trans z)
      · cases z2
  · intro b hb
    show b < h3.objs.size
    rcases List.mem_cons.mp hb with z | z
    · rw [z]; exact sLt
    · rcases List.mem_cons.mp z with z | z
      · rw [z]; exact Nat.lt_trans haLt sLt
      · cases z
  · intro z
    rcases List.mem_cons.mp z with z | z
    · exact Nat.ne_of_lt cLt z
    · cases z
  · intro href hhref
    refine ⟨fun A' E' i v s₂ m₂ hA hD hU hPv hn hm hk => ?_, fun A' E' i v s₂ m₂ hA hD hU hPv hp hn hm hk => ?_⟩
    · simp only [List.forIn_nil]
      exact wpAny_pure ⟨rfl, keeps_refl _⟩
    · have hv2 : its[i]? = some v := by simpa using hPv
      have hi2 : i < xs.length := by
        have := (List.getElem?_eq_some_iff.mp hv2).1
        rw [rv.length]; exact this
      obtain ⟨u, hu, ru⟩ := rv.get (List.getElem?_eq_getElem hi2)
      have euv : u = v := Option.some.inj (hu.symm.trans hv2)
      subst euv
      have ob2 : ∀ b w', b ≠ T → s1.heap.get? b = some w' → s₂.heap.get? b = some w' := fun b w' hb e => by
        have l1 := Heap.lt_size e
        have e3 := keep3 b w' hb e
        refine hk b (List.mem_range.mpr (Heap.lt_size e3)) (fun z => ?_) _ (hhref _ _ e3)
        rcases List.mem_cons.mp z with z | z
        · exact Nat.ne_of_lt l1 z
        · cases z
      have rm : Room k A' := ⟨hA, by have := hr.dp; omega, by have := hr.un; omega⟩
      refine hel A' (genEnv sc (cloFrom X.env.cells sc.names []) h3.objs.size code builtinsNs X.env) s₂.heap i _ u rm rfl I1.ok.glob rfl (fun b w' e => ob2 b w' (noT b w' e) (I1.bk b w' e)) ⟨m₂, hn, hm⟩ (List.getElem?_eq_getElem hi2) ru (fun b ho hb e => ?_) s₂ _ _ (fun _ _ e => e) fun y h' tk' ry hk' => ?_
      · refine (I1.hok b ho e).stay (fun d w' hd q => ob2 d w' ?_ q) (fun _ q => q) fun _ _ q => q
        rcases hd with z | z
        · rw [z]; exact hb
        · intro z2
          rw [z2, hT] at z
          cases z
      · exact ⟨ry, h', tk', rfl, hk'⟩
  · intro g h5 tk5 gs hgb hag hsz5 hk5 W5 hat
    simp only [GxR.passing_true, List.length_range] at W5
    refine hQ H1 xs pb g _ hR ⟨_, _, _, _, _, W5.in4_1, hat, ?_, fun s' hm => ?_⟩
    · intro j y sj Qj Ej hy hQj
      obtain ⟨i, hij, rfl⟩ := hy
      obtain ⟨hj, ej⟩ := List.getElem?_eq_some_iff.mp hij
      rw [List.getElem_range] at ej
      subst ej
      exact wpAny_truthy_bool hQj
    · obtain ⟨more, em⟩ := hmore
      have nwr : ∀ b u, s1.heap.get? b = some u → b ∉ h3.objs.size :: [s1.heap.objs.size] := fun b u e hb => by
        have hl := Heap.lt_size e
        rcases List.mem_cons.mp hb with z | z
        · have h9 : b = h3.objs.size := z
          have : b < s1.heap.objs.size := hl
          rw [h9] at this
          have h10 : h3.objs.size < s1.heap.objs.size := this
          omega
        · rcases List.mem_cons.mp z with z | z
          · rw [z] at hl
            exact Nat.lt_irrefl _ hl
          · cases z
      have J := inv_tab (more := more) (h' := s'.heap) (g' := s'.gens) (d' := s'.drawn) (t' := s'.toks) I1 hT (fun b u hb e => hm.heap b u (nwr b u e) (hk5 b u (keep3 b u hb e)))
        (by rw [← em]; exact hm.heap T _ (nwr T _ hTs) (hk5 T _ hT3)) (AllBare.movedS (I1.bare.push hgb) hm)
      rw [sh_eta s1 s' hm.os] at J
      exact ⟨upd H1 T (.tbl (ps ++ more)), ⟨⟨ps ++ more, upd_same, by rw [← em]; exact ht3⟩, fun b hb => upd_ne hb⟩, J⟩

/-- all(test for x in e): the reading -/
def tAllQ (X : Cx) (T : Addr) (sc : Scope) (x : Str) (elt : Expr) (k : Nat) (te : TE) : TE := fun σ H Q => te σ H fun v H1 => ∃ (a : Addr) (xs : List V) (pb : Nat → Bool),
  v = .ref a ∧ (SqT X.K H1 a xs ∨ SqL X.K H1 a xs) ∧ TabG H1 T ∧ Elt X T sc x elt k H1 xs pb ∧ ∀ H2, Tabbed T H1 H2 → Q (.bl ((List.range xs.length).all pb)) H2
theorem pe_allQ {c T : Addr} {elt iter : Expr} {x : Str} {px p pos gp : Pos} {sc : Scope} {te : TE} {k : Nat} (hr : Room (k + 1) X.A) (hg : Gl X "all") (hm : X.mg "all" = none) (TB : TabB X.base X.mg c T) (hcode : X.env.code = .ref c)
    (S : GenS X.env sc x) (hi : PE X iter te) (hb : bootBuiltins "all" = some (.builtin "all") := by decide +kernel) (hs : ∀ v, genFold iter X.env v = pure v := by intro _; rfl)
    (he : starEach [.GeneratorExp elt [⟨.Name x px, iter, [], 0⟩] sc gp] X.env = (false, eval (.GeneratorExp elt [⟨.Name x px, iter, [], 0⟩] sc gp) X.env) :: starEach [] X.env := by rfl) :
    PE X (.Call (.Name "all" p) [.GeneratorExp elt [⟨.Name x px, iter, [], 0⟩] sc gp] [] pos) (tAllQ X T sc x elt k te) := by
  refine ⟨fun pins s σ H Q I h => wpAny_Call_Name_kw (ld_blt I hg hm hb (PyProof.Rows.callWith_builtin1 ?_ he (by rfl)))⟩
  rw [he]
  show wpAny _ _ (spliced ((false, eval (.GeneratorExp elt [⟨.Name x px, iter, [], 0⟩] sc gp) X.env) :: backTo pos (starEach [] X.env))) _ _ s
  refine Calls.spliced_cons (gen_seq (R := fun H1 xs pb => ∀ H2, Tabbed T H1 H2 → Q (.bl ((List.range xs.length).all pb)) H2) hr TB hcode S hi hs I h fun H1 xs pb g s5 hR hG => ?_)
  obtain ⟨fp, wr, G, F, St, Wk, hst, htr, hI⟩ := hG
  refine Calls.spliced_nil (call_all_walkS (Wk.self 0 _ _ _ hst ⟨g, fp, wr, G, _, F, St, _, rfl, Wk, hst, htr, fun s' hmv => ?_⟩))
  obtain ⟨H2, hT, J⟩ := hI s' hmv
  exact ⟨.bl _, H2, J, rfl, hR H2 hT⟩
end
end Pu
set_option Elab.async false
set_option linter.all false
set_option maxRecDepth 100000
set_option maxHeartbeats 4000000
/-! repr of data; a law's end where repr is asked. -/
namespace Pu
open PySem PySem.Spec PyProof.Rows L2 GxR

/-- the list or tuple d, shown -/
def rRepr (K : PySem.W.Frag) : List V → Hp → VK → Prop := fun vs H Q => ∃ (v : V) (d : PyData), vs = [v] ∧ Dp K H v d ∧ isDisplay d = true ∧ d.showable = true ∧ d.hasDict = false ∧ d.depth ≤ 60 ∧ d.shown.length ≤ sizeLine ∧ Q (.str d.shown) H
theorem cr_repr {X : Cx} (hu : X.A.units + 64 < cLine) (hg : X.A.guards = some []) : CallR X (.builtin "repr") (rRepr X.K) := by
  intro pins s σ H vs us Q I r h
  obtain ⟨v, d, rfl, hd, hi, hs, hn, hz, hl, q⟩ := h
  obtain ⟨u, rfl, rv⟩ := vals1 r
  obtain ⟨as, rd⟩ := Dp.reads I d v u hd rv
  obtain ⟨a, rfl⟩ := isRef_of_reads rd hi
  exact repr_of_reads' rd hs (PyData.noDict_hsm hn) hg (by omega) (fun _ _ e => e) (fun h' t tk hk => ⟨.str d.shown, H, I.kept hk, ⟨t, rfl⟩, q⟩) hl

/-- a def of the text whose code object is known -/
structure FunC (K : PySem.W.Frag) (x qual : Str) (st : Stmt) (f : Addr) (fd : FuncData) (c : Addr) : Prop where
  ex : ∃ (oc : Value) (od : Option Addr) (kV doc pm : Value) (an : Option Addr) (ct : Value) (osl : Array (Option Value)),
    fd = PySem.W.fnOf x qual (defArgs st) (defBody st) (defScope st) .none kV doc pm an (.ref c) ct ∧ K.lookup f = some ⟨oc, od, .func fd, osl⟩ ∧ PySem.W.codeIn K (.ref c) qual = true
  kp : PySem.W.keepIn K (.ref f) = true
theorem FunC.ok {P : Program} {w : World} {K : PySem.W.Frag} {mg : Str → Option Value} {base : Heap} {x qual : Str} {st : Stmt} {f c : Addr} {fd : FuncData} {N ps : List Str} {k : Nat} {sp : Sp} (F : FunC K x qual st f fd c) (S : FnScope N ps (defScope st))
    (len : ∀ vs H Q E, sp vs H Q E → vs.length = ps.length)
    (hbody : ∀ (A : Around) (outer : List Env) (s : Shared) (H : Hp) (vs : List V) (Q : VK) (E : XK), Room k (A.deeper (envOfC qual (defScope st) s.heap.objs.size f (.ref c))) → sp vs H Q E →
      ∃ t, PSs (cxOf CX0 P w K mg base N qual (defScope st) f (.ref c) A outer s H E).nox (defBody st) t ∧ t { nx := fun _ H' => Q .non H', rt := Q } (start N vs) H) : FnOk P w K mg base CX0 (k + 1) f fd ps sp := by
  obtain ⟨oc, od, kV, doc, pm, an, ct, osl, rfl, lk, hcd⟩ := F.ex
  refine fn_of lk hcd S len fun A outer s H vs Q E hr hsp => ?_
  obtain ⟨t, h, q⟩ := hbody A outer s H vs Q E hr hsp
  exact ⟨t, h.nox, q⟩
theorem FunC.fn {K : PySem.W.Frag} {x qual : Str} {st : Stmt} {f c : Addr} {fd : FuncData} (F : FunC K x qual st f fd c) : Fun K x qual st f fd := by
  obtain ⟨oc, od, kV, doc, pm, an, ct, osl, e, lk, hcd⟩ := F.ex
  exact ⟨⟨oc, od, kV, doc, pm, an, .ref c, ct, osl, e, lk, hcd⟩, F.kp⟩

section
variable {P : Program} {w : World} {K : PySem.W.Frag} {mg mb : Str → Option Value} {fa a : Addr} {cs : List (Addr × Addr)} {fd : FuncData} {N : List Str} {x : Str} {st : Stmt} {s₁ : Shared} {vs : List Value} {ns : List Int}
/-- what a law's body is asked: from any base and state, at the caller that the claim names -/
def BodyOk (P : Program) (w : World) (K : PySem.W.Frag) (mg : Str → Option Value) (cs : List (Addr × Addr)) (N : List Str) (st : Stmt) (fa a : Addr) (ns : List Int) : Prop :=
  ∀ (base : Heap) (cdv : Value) (s : Shared) (H : Hp), L2.Mod K mg base → (∀ p ∈ cs, TabB base mg p.1 p.2) → (∀ p ∈ cs, H p.2 = some (.tbl #[])) → SqL K H a (ns.map V.int) →
    ∃ t, PSs (cxOf CX0 P w K mg base N "law" (defScope st) fa cdv callerA [] s H E0).nox (defBody st) t ∧ t { nx := fun _ _ => False, rt := fun v _ => v = .bl true } (start N [.ref a]) H
/-- from a heap that is told by H -/
theorem law_from {H : Hp} (Fn : Fun K "law" "law" st fa fd) (S : FnScope N [x] (defScope st)) (hbind : ∀ (s : Shared) (u : Value), BindsTo s fd ⟨[u], []⟩ [(x, u)]) (hr : Room 9 callerA)
    (B : BodyOk P w K mg cs N st fa a ns) (base : Heap) (M : L2.Mod K mg base) (hT : ∀ p ∈ cs, TabB base mg p.1 p.2) (hH : ∀ p ∈ cs, H p.2 = some (.tbl #[])) (hS : SqL K H a (ns.map V.int))
    (e0 : Env0 P w K mg base callerA [] s₁ H) :
    codeAny (model P w) callerA (.call (.ref fa) ⟨[.ref a], []⟩) (fun r s' => ∃ H', r = .ok (.ret (.bool true)) ∧ s'.os = s₁.os ∧ AllBare s'.gens ∧ Un [] [] H H' s₁.heap s'.heap ∧ HOk P w H' s'.heap) s₁ := by
  obtain ⟨oc, od, kV, doc, pm, an, cdv, ct, osl, rfl, lk, hcd⟩ := Fn.ex
  obtain ⟨t, ht, hq⟩ := B base cdv s₁ H M hT hH hS
  have KX : K.In s₁.heap := M.kin.keeps fun b o e => (e0.bs b o e).1
  have lim : s₁.heap.NoLimit := M.nolimit.keeps fun b o e => (e0.bs b o e).1
  have kinds : ∀ y ∈ [x].zip [Value.ref a], (defScope st).names.lookup y.1 = some .local ∨ ((defScope st).names.lookup y.1 = some .cell ∧ ((cellsFrom (s₁.heap.objs.size + 1) (defScope st).names []).lookup y.1).isSome = true) := fun ⟨n, v⟩ hy => by
    rcases S.par n (List.of_mem_zip hy).1 with q | q
    · exact .inl q
    · exact .inr ⟨q, PySem.W.cellsFrom_some _ _ _ (.inl q)⟩
  refine codeAny_call_function hr.depth (KX _ _ lk) rfl S.co S.gen rfl (PySem.W.codeRec_of KX hcd) (hbind s₁ (.ref a) _ _ _ _ ?_)
  refine wpAny_newFunctionEnv_cells S.kind kinds fun env he s1 X => ?_
  subst he
  refine ⟨lim.keeps X.toInCall.keep, codeAny_func ?_⟩
  have I : Inv (cxOf CX0 P w K mg base N "law" (defScope st) fa cdv callerA [] s₁ H E0) [] (start N [.ref a]) H s1 := inv_start (ps := [x]) (us := [.ref a]) S hr.hd e0 rfl (.cons rfl .nil) X
  refine wpAny_mono (ht.run [] s1 (start N [.ref a]) H _ (I.wish _) hq) (fun fl s' hs => ?_) fun e s' hs => hs.elim
  cases fl with
  | ret u =>
    obtain ⟨v, σ', H', J, rv, q⟩ := hs
    have q2 : v = .bl true := q
    subst q2
    obtain rfl : u = Value.bool true := rv
    exact ⟨H', rfl, J.os, J.bare, J.base, J.hok⟩
  | next =>
    obtain ⟨_, _, _, q⟩ := hs
    exact q.elim
  | brk =>
    obtain ⟨_, _, _, q⟩ := hs
    exact False.elim q
  | cont =>
    obtain ⟨_, _, _, q⟩ := hs
    exact False.elim q

/-- the law's call at the list a ends with True, and what was there is there still -/
abbrev SaysTrue (P : Program) (w : World) (fa a : Addr) (s : Shared) : Prop :=
  codeAny (model P w) callerA (.call (.ref fa) ⟨[.ref a], []⟩) (fun res t => res = .ok (.ret (.bool true)) ∧ OldK s.heap t.heap ∧ t.os = s.os ∧ AllBare t.gens) s
/-- code objects with their tables, all empty yet and none of K -/
def Bare (cs : List (Addr × Addr)) (K : PySem.W.Frag) (h : Heap) : Prop := ∀ p ∈ cs, (h.get? p.2 = some { cls := .none, data := .fields #[] } ∧ K.lookup p.2 = none) ∧ PySem.W.CodeHd h p.1 p.2
/-- the module of the builtins, where the main text finds it -/
def BltMod (mg : Str → Option Value) (h : Heap) : Prop := ∃ m : Addr, ∃ o : Obj, mg "__builtins__" = some (.ref m) ∧ m ≠ builtinsNs ∧ h.get? m = some o ∧ o.cls = .type "module" ∧ o.dict = some builtinsNs ∧ o.data = .plain
/-- the whole end: the heap as it stands behind the top -/
theorem law_end (KX : K.In s₁.heap) (hns : s₁.heap.Ns mainGlobals mg) (hb : s₁.heap.Ns builtinsNs mb) (hbb : ∀ x : Str, x ≠ "__name__" → mb x = bootBuiltins x) (hlim : s₁.heap.NoLimit) (hg : s₁.gens = #[])
    (hcs : Bare cs K s₁.heap) (hbm : BltMod mg s₁.heap)
    (ha : s₁.heap.get? a = some { cls := .type "list", data := .seq vs.toArray }) (hi : IntsAre vs ns) (hl : ns.length ≤ sizeLine)
    (Fn : Fun K "law" "law" st fa fd) (S : FnScope N [x] (defScope st)) (hbind : ∀ (s : Shared) (u : Value), BindsTo s fd ⟨[u], []⟩ [(x, u)]) (hr : Room 9 callerA) (B : BodyOk P w K mg cs N st fa a ns) :
    SaysTrue P w fa a s₁ := by
  have hT := fun p hp => (hcs p hp).1.1
  have nT := fun p hp => (hcs p hp).1.2
  have C := fun p hp => (hcs p hp).2
  -- the tables, the script
  let Ts := cs.map (·.2)
  have tab : ∀ b, b ∈ Ts → s₁.heap.get? b = some { cls := .none, data := .fields #[] } := fun b h => by
    obtain ⟨p, hp, rfl⟩ := List.mem_map.mp h
    exact hT p hp
  have inT : ∀ p ∈ cs, p.2 ∈ Ts := fun p hp => List.mem_map.mpr ⟨p, hp, rfl⟩
  have aNot : a ∉ Ts := fun z => by
    have q := (tab a z).symm.trans ha
    cases congrArg Obj.data (Option.some.inj q)
  have rv := vals_ints hi
  have frame : ∀ (u : Option HO), (u = none ∨ u = some (.frz { cls := .type "list", data := .seq vs.toArray } (.lst (ns.map V.int)))) → (u ≠ none → K.lookup a = none) →
      SqL K (fun b => if b = a then u else if b ∈ Ts then some (.tbl #[]) else none) a (ns.map V.int) →
      SaysTrue P w fa a s₁ := by
    intro u hu hKa hS
    generalize hHdef : (fun b => if b = a then u else if b ∈ Ts then some (HO.tbl #[]) else none : Hp) = H at hS
    have Ha : H a = u := by rw [← hHdef]; exact if_pos rfl
    have HT : ∀ b, b ∈ Ts → H b = some (.tbl #[]) := fun b h => by
      have nb : b ≠ a := fun z => aNot (z ▸ h)
      rw [← hHdef]
      exact (if_neg nb).trans (if_pos h)
    have HN : ∀ b, b ≠ a → b ∉ Ts → H b = none := fun b h1 h2 => by
      rw [← hHdef]
      exact (if_neg h1).trans (if_neg h2)
    have ok : HOk P w H s₁.heap := fun b o e => by
      by_cases h1 : b = a
      · subst h1
        rw [Ha] at e
        rcases hu with z | z
        · rw [z] at e; cases e
        · rw [z] at e
          cases e
          exact ⟨ha, by rw [List.length_map]; exact hl, vs, _, rv, ha⟩
      · by_cases h2 : b ∈ Ts
        · rw [HT b h2] at e
          cases e
          exact tab b h2
        · rw [HN b h1 h2] at e; cases e
    -- what is neither a list nor an empty table is not tracked
    have plain : ∀ {b : Addr} {o : Obj}, s₁.heap.get? b = some o → (∀ q n, o.data ≠ .seq q n) → o.data ≠ .fields #[] → H b = none := fun {b o} e h1 h2 => by
      refine HN b (fun z => ?_) fun z => ?_
      · rw [z, ha] at e
        cases e
        exact h1 _ _ rfl
      · rw [tab b z] at e
        cases e
        exact h2 rfl
    have dct : ∀ {b : Addr} {o : Obj} {es : Array DictEntry} {ep : Nat}, s₁.heap.get? b = some o → o.data = .dict es ep → H b = none := fun e d =>
      plain e (fun q n z => by rw [d] at z; cases z) fun z => by rw [d] at z; cases z
    have bg : ∀ {b : Addr} {o : Obj}, s₁.heap.get? b = some o → H b = none → (hidT s₁.heap H).get? b = some o := fun e n => hidT_get e n
    have nsB : ∀ {b : Addr} {m : Str → Option Value}, s₁.heap.Ns b m → (hidT s₁.heap H).Ns b m := fun ⟨o, es, ep, e, d, r⟩ => ⟨o, es, ep, bg e (dct e d), d, r⟩
    have KB : K.In (hidT s₁.heap H) := fun b o e => by
      refine bg (KX b o e) ?_
      by_cases h1 : b = a
      · rw [h1, Ha]
        rcases hu with z | z
        · exact z
        · have := hKa (by rw [z]; simp)
          rw [← h1, e] at this
          cases this
      · refine HN b h1 fun h2 => ?_
        obtain ⟨p, hp, ep⟩ := List.mem_map.mp h2
        rw [← ep, nT p hp] at e
        cases e
    have M : L2.Mod K mg (hidT s₁.heap H) := ⟨KB, nsB hns, ⟨mb, nsB hb, hbb⟩, let ⟨mc, h1, h2⟩ := hlim; ⟨mc, nsB h1, h2⟩⟩
    have TB : ∀ p ∈ cs, TabB (hidT s₁.heap H) mg p.1 p.2 := fun p hp => by
      have hTp := hT p hp
      refine ⟨?_, ?_, fun z => ?_⟩
      · obtain ⟨o, us, file, tf, flags, tg, inF, text, tt, e1, r1, r2, r3, r⟩ := C p hp
        refine ⟨o, us, file, tf, flags, tg, inF, text, tt, bg e1 (plain e1 (fun q n z => ?_) fun z => ?_), r1, r2, r3, r⟩
        · rw [r2] at z; cases z
        · rw [r2] at z
          cases z
          simp at r3
      · obtain ⟨bm, ob, b1, b2, b3, b4, b5, b6⟩ := hbm
        have nG : bm ≠ mainGlobals := fun q => by
          obtain ⟨o, es, ep, e, hd, _⟩ := hns
          rw [q, e] at b3
          cases b3
          rw [hd] at b6
          cases b6
        have nP : bm ≠ p.2 := fun q => by
          rw [q, hTp] at b3
          cases b3
          cases b6
        exact ⟨bm, ob, b1, b2, nG, nP, bg b3 (plain b3 (fun q n z => by rw [b6] at z; cases z) fun z => by rw [b6] at z; cases z), b4, b5, b6⟩
      · obtain ⟨o, es, ep, e, hd, _⟩ := hns
        rw [z, hTp] at e
        cases e
        cases hd
    have e0 : Env0 P w K mg (hidT s₁.heap H) callerA [] s₁ H :=
      ⟨rfl, M, fun b o e => of_hidT e, Nat.le_of_eq (hidT_size _ _), trivial, fun b hb => absurd (show b ∈ ([] : List Addr) from hb) List.not_mem_nil, ok, .of_eq hg⟩
    refine codeAny_mono (law_from Fn S hbind hr B _ M TB (fun p hp => HT _ (inT p hp)) hS e0) fun r s' h => ?_
    obtain ⟨H', rfl, os, bare, un, ok'⟩ := h
    have same : ∀ b o, b ∉ Ts → s₁.heap.get? b = some o → s'.heap.get? b = some o := fun b o nb e => by
      by_cases h1 : b = a
      · rcases hu with z | z
        · exact un.keep b o e (by rw [h1, Ha, z]) (by simp) (by simp)
        · have z1 : H a = some (.frz { cls := .type "list", data := .seq vs.toArray } (.lst (ns.map V.int))) := Ha.trans z
          obtain ⟨e2, _⟩ := ok' a _ (un.frzs a _ _ z1)
          rw [h1] at e ⊢
          rw [ha] at e
          cases e
          exact e2
      · exact un.keep b o e (HN b h1 nb) (by simp) (by simp)
    have grown : ∀ b, b ∈ Ts → ∃ more : Array Value, s'.heap.get? b = some { cls := .none, data := .fields more } := fun b h => by
      obtain ⟨more, z⟩ := un.tbls b #[] (HT b h)
      exact ⟨_, ok' b _ z⟩
    refine ⟨rfl, ⟨fun b o e => ?_, fun b o e => ?_⟩, os, bare⟩
    · by_cases h : b ∈ Ts
      · obtain ⟨more, hm⟩ := grown b h
        obtain ⟨p, hp, rfl⟩ := List.mem_map.mp h
        rw [hT p hp] at e
        cases e
        exact .inr (.inl ⟨((C p hp).tab (hT p hp)).isCodeTable, rfl, #[], more, rfl, by rw [Array.empty_append]; exact hm⟩)
      · exact .inl (same b o h e)
    · by_cases h : b ∈ Ts
      · obtain ⟨more, hm⟩ := grown b h
        exact ⟨_, hm⟩
      · exact ⟨o, same b o h e⟩
  cases hk : K.lookup a with
  | some o =>
    have e := KX a o hk
    rw [ha] at e
    cases e
    refine frame none (.inl rfl) (fun h => (h rfl).elim) (.inr ⟨_, vs.toArray, _, hk, rfl, rfl, rfl, ?_, by simpa using rv⟩)
    rw [List.size_toArray, hi.length]
    exact hl
  | none => exact frame _ (.inr rfl) (fun _ => hk) (.inl (.inr ⟨_, if_pos rfl⟩))
end
end Pu
set_option Elab.async false
set_option linter.all false
set_option maxRecDepth 100000
set_option maxHeartbeats 4000000
/-! enumerate of a tuple; for over either; calls by keywords alone; len(set(ints)). -/
namespace Pu
open PySem PySem.Spec PyProof.Rows L2 GxR

theorem meets_enum_tup (l : Addr) (items : Array Value) (n : Nat) (dct : Option Addr) (sl : Array (Option Value)) :
    Meets (Builtin.«enumerate.__new__» ⟨[.type "enumerate", .ref l], []⟩) (fun _ R s => s.heap.get? l = some { cls := .type "tuple", dict := dct, data := .seq items n, slots := sl } ∧
      R (.ok (.ret (.ref (s.heap.push { cls := .type "tuple_iterator", data := .fields #[.ref l, .int 0 0] }).objs.size)))
        { s with heap := (s.heap.push { cls := .type "tuple_iterator", data := .fields #[.ref l, .int 0 0] }).push { cls := .type "enumerate", data := .fields #[.none, .bool false, .ref s.heap.objs.size, rawInt 0, .none, .none] } }) :=
  .of_wp fun prog w A R s h => by
    obtain ⟨hp, g, d, tk, os⟩ := s
    obtain ⟨hl, h⟩ := h
    have sub := sub_enumerate
    have hL : Heap.IsTuple (Shared.heap ⟨hp, g, d, tk, os⟩) l items := ⟨_, hl, rfl, n, rfl⟩
    wp_walk using wpAny_loadPart' hl
    refine wpAny_stack_any fun st => wpAny_pure ?_
    split
    · rename_i c _ _ _ _ _
      cases (c == Value.type "enumerate")
      all_goals
        wp_walk using wpAny_loadPart' hl, wpAny_pyIter_tuple hL
        exact ⟨_, rfl, h⟩
    · wp_walk using wpAny_loadPart' hl, wpAny_pyIter_tuple hL
      exact ⟨_, rfl, h⟩

section
variable {prog : Program} {w : World} {A : Around} {E : Value → Shared → Prop} {s : Shared}
theorem call_enum_tup {t : Addr} {items : Array Value} {Q : Value → Shared → Prop} (hL : s.heap.IsTuple t items)
    (h : ∀ h', IsEnum h' (s.heap.objs.size + 1) s.heap.objs.size 0 .none → h'.IsTupleIter s.heap.objs.size t 0 → (∀ b o, s.heap.get? b = some o → h'.get? b = some o) → Q (.ref (s.heap.objs.size + 1)) { s with heap := h' }) :
    wpAny (model prog w) A (call (.type "enumerate") [.ref t]) Q E s := by
  obtain ⟨⟨c, dct, dt, sl⟩, hl, hc, n, hd⟩ := hL
  have hc2 : c = .type "tuple" := hc
  have hd2 : dt = .seq items n := hd
  subst hc2 hd2
  refine callType_new F.called_enumerate (by decide) (F.typeCall_enumerate_1 _) (F.newCall_enumerate_1 _) (fun obj => F.args_object_init_2 obj _) F.entry_enumerate_new (meets_enum_tup t items n dct sl) ⟨hl, ?_⟩
  have hz : (s.heap.push { cls := .type "tuple_iterator", data := .fields #[.ref t, .int 0 0] }).objs.size = s.heap.objs.size + 1 := Heap.size_push ..
  show _ ∧ _
  rw [hz]
  have he : IsEnum ((s.heap.push { cls := .type "tuple_iterator", data := .fields #[.ref t, .int 0 0] }).push
      { cls := .type "enumerate", data := .fields #[.none, .bool false, .ref s.heap.objs.size, rawInt 0, .none, .none] }) (s.heap.objs.size + 1) s.heap.objs.size 0 .none := by
    have q := Heap.get?_push_size (s.heap.push { cls := .type "tuple_iterator", data := .fields #[.ref t, .int 0 0] })
      (o := { cls := .type "enumerate", data := .fields #[.none, .bool false, .ref s.heap.objs.size, rawInt 0, .none, .none] }) rfl
    rw [hz] at q
    exact q
  exact ⟨⟨_, he, rfl⟩, h _ he ⟨_, Heap.get?_push_of_some _ (Heap.get?_push_size _ rfl), rfl, rfl⟩ fun b o x => Heap.get?_push_of_some _ (Heap.get?_push_of_some _ x)⟩
end
/-- the tuple at a as it stands at each turn, each item in a new pair -/
def Ite2 (K : PySem.W.Frag) (a : Addr) : It :=
  ⟨fun i H => ∃ (xs : List V) (x : V), SqT K H a xs ∧ xs[i]? = some x,
    fun i H v H' => ∃ T x, v = .ref T ∧ H T = none ∧ H' = upd H T (.tup [.int (i : Nat), x]) ∧ ∀ xs, SqT K H a xs → xs[i]? = some x,
    fun i H => ∃ xs : List V, SqT K H a xs ∧ xs.length = i⟩
theorem turn_enumT {P : Program} {w : World} {K : PySem.W.Frag} {elts : List Expr} {kk : Nat} {tpos : Pos} (a e it : Addr) (hat : a ≠ it) (hae : a ≠ e) :
    Turn P w K (.Tuple elts kk tpos) (Ite2 K a) [e, it] e (fun i h => (∃ old, IsEnum h e it ((i : Nat) : Int) old) ∧ h.IsTupleIter it a i ∧ e ≠ it) where
  mem := by simp
  obj := fun i h st b hb => by
    obtain ⟨⟨old, he⟩, ⟨o, ho, hc, hd⟩, _⟩ := st
    rcases List.mem_cons.mp hb with z | z
    · rw [z]
      exact ⟨_, he, fun v q => nomatch q⟩
    · rw [List.mem_singleton.mp z]
      exact ⟨o, ho, fun v q => by rw [hd] at q; cases q⟩
  keep := fun i h h' st k => by
    obtain ⟨⟨old, he⟩, hi, hne⟩ := st
    exact ⟨⟨old, k e (by simp) _ he⟩, hi.at fun o q => k it (by simp) o q, hne⟩
  item := by
    intro X hP hw hK hc i pins s σ H E I hf st hg
    subst hP hw hK
    obtain ⟨⟨old, he⟩, hit, hne⟩ := st
    obtain ⟨xs, x, hq, hx⟩ := hg
    obtain ⟨its, rv, p, hz⟩ := I.tuple hq
    obtain ⟨u, hu, ru⟩ := rv.get hx
    have hel : e < s.heap.objs.size := Heap.lt_size he
    have hil : it < s.heap.objs.size := by
      obtain ⟨_, q, _⟩ := hit
      exact Heap.lt_size q
    have hd : X.A.handled = none := I.ok.hd hc
    have hlt : i < its.toArray.size := by
      rw [List.size_toArray]
      exact (List.getElem?_eq_some_iff.mp hu).1
    refine wpAny_pyNext_enum_itemD (Draws.tuple (A := X.A.in1) hd it a hat its.toArray) he ⟨hit, p⟩ hlt hne (by simp [hne, Ne.symm hae]) fun x' h' tk hP ho st' hT hsz hk => ?_
    have ex : x' = u := by
      have q : its.toArray[i]? = some x' := hP
      rw [List.getElem?_toArray, hu] at q
      exact (Option.some.inj q).symm
    subst ex
    refine ⟨_, rfl, wpAny_letOwnedTupleGo_enum (s := { s with heap := h', toks := tk + 1 }) ho fun h'' he' sb => ?_⟩
    have hT2 : h''.get? s.heap.objs.size = some { cls := .type "tuple", data := .seq #[.int i tk, x'] } := (sb.2 _ (Nat.ne_of_gt hel)).trans hT
    have new : ObjOk X.prog X.w (upd H s.heap.objs.size (.tup [.int (i : Nat), x])) h'' s.heap.objs.size (.tup [.int (i : Nat), x]) :=
      ⟨by show 2 ≤ sizeLine; decide, [.int i tk, x'], .cons ⟨_, rfl⟩ (.cons ru .nil), ⟨_, hT2, rfl, _, rfl⟩⟩
    have I1 : Inv X pins σ (upd H s.heap.objs.size (.tup [.int (i : Nat), x])) { s with heap := h'', toks := tk + 1 } :=
      I.turnedNew (ch := [e, it]) (fun b ob hb q => (sb.2 b (fun z => hb (by simp [z]))).trans (hk b ob (fun z => hb (by simp [z])) (fun z => hb (by simp [z])) q)) hf (Nat.le_refl _) new
    refine ⟨.ref s.heap.objs.size, _, I1, rfl, ⟨_, x, rfl, I.hok.fresh (Nat.le_refl _), rfl, fun ys hy => by rw [I.tuple_inj hy hq]; exact hx⟩, ⟨⟨x', ?_⟩, st'.1.at fun o q => (sb.2 it (Ne.symm hne)).trans q, hne⟩, fun b hb => ?_⟩
    · have e1 : ((i + 1 : Nat) : Int) = (i : Int) + 1 := by omega
      rw [e1]
      exact he'
    · have hb2 : b < s.heap.objs.size := by
        rcases List.mem_cons.mp hb with z | z
        · rw [z]; exact hel
        · rw [List.mem_singleton.mp z]; exact hil
      rw [upd_ne (Nat.ne_of_lt hb2)]
      exact (hf b hb).1
  done := by
    intro X hP hw hK hc i pins s σ H E I hf st hg
    subst hP hw hK
    obtain ⟨⟨old, he⟩, hit, hne⟩ := st
    obtain ⟨xs, hq, hx⟩ := hg
    obtain ⟨its, rv, p, hz⟩ := I.tuple hq
    obtain ⟨f0, f1, f2, f3, f4, f5⟩ := hf it (by simp)
    have hl := rv.length
    have hd : X.A.handled = none := I.ok.hd hc
    have hi : i = its.toArray.size := by rw [List.size_toArray, ← hl, hx]
    subst hi
    exact wpAny_pyNext_enum_endD (Draws.tuple (A := X.A.in1) hd it a hat its.toArray) he ⟨hit, p⟩ fun h' eb => ⟨rfl, I.turned (t' := s.toks) (fun b o hb q => eb b o hb q) f0 f1 f3 f4 f5⟩
  self := fun A i s Q E st h => by
    obtain ⟨⟨_, he⟩, _⟩ := st
    exact wpAny_pyIter_enum he h
theorem walk_enumT {K : PySem.W.Frag} {a : Addr} {xs : List V} :
    Walk (Ite2 K a) xs.length (fun H => SqT K H a xs) (YPair (fun i => some (.int (i : Nat))) (fun i => xs[i]?)) := by
  refine ⟨fun i _ hi q => ⟨xs, xs[i], q, by simp [hi]⟩, fun _ q => ⟨xs, q, rfl⟩, fun i H v H' _ q y => ?_⟩
  obtain ⟨T, x, h1, h2, h3, h4⟩ := y
  exact ⟨T, .int (i : Nat), x, h1, h2, h3, rfl, h4 xs q⟩
def iEnumT (K : PySem.W.Frag) (ta : TA) : TI := fun σ H R => ta σ H fun vs H1 => ∃ a xs, vs = [.ref a] ∧ SqT K H1 a xs ∧ R (Ite2 K a) H1
section
variable {X : Cx} {tg : Expr}
theorem pi_enumT {e : Expr} {ta : TA} {p pos tpos : Pos} {elts : List Expr} {kk : Nat} (hg : Gl X "enumerate") (hm : X.mg "enumerate" = none) (ha : PA X [e] ta) (hs : starEach [e] X.env = [(false, eval e X.env)] := by rfl) :
    PI X (.Tuple elts kk tpos) (.Call (.Name "enumerate" p) [e] [] pos) (iEnumT X.K ta) := by
  refine ⟨fun pins s σ H R I h => Call_ (ld_blt I hg hm boot_enumerate (PyProof.Rows.callWith_type1 (thn (ha.run pos pins s σ H _ I h) fun us s1 ⟨vs, H1, I1, r1, q1⟩ => ?_) hs rfl))⟩
  obtain ⟨a, xs, rfl, hq, q⟩ := q1
  obtain ⟨u, rfl, r⟩ := vals1 r1
  cases (show u = Value.ref a from r)
  obtain ⟨its, rv, p', hz⟩ := I1.tuple hq
  have hat : a < s1.heap.objs.size := p'.lt
  refine call_enum_tup (show s1.heap.IsTuple a its.toArray from p') fun h' he hit hk => wpAny_pyIter_enum he ?_
  have I2 : Inv X pins σ H1 { s1 with heap := h' } := I1.kept (t' := s1.toks) hk
  refine ⟨s1.heap.objs.size + 1, [s1.heap.objs.size + 1, s1.heap.objs.size], _, _, H1, rfl, I2, turn_enumT a (s1.heap.objs.size + 1) s1.heap.objs.size (Nat.ne_of_lt hat) (Nat.ne_of_lt (Nat.lt_succ_of_lt hat)), ⟨⟨.none, he⟩, hit, Nat.succ_ne_self _⟩, fun b hb => ?_, q⟩
  have hle : s1.heap.objs.size ≤ b := by
    rcases List.mem_cons.mp hb with z | z
    · rw [z]
      exact Nat.le_add_right _ _
    · rw [List.mem_singleton.mp z]
      exact Nat.le_refl _
  exact I1.fpOk hle (I1.hok.fresh hle)

/-- a, b = a tuple or a list of two .. -/
def gSeq (K : PySem.W.Frag) (n : Nat) (t : TGs) : TG := fun v σ H Q => ∃ a xs, v = .ref a ∧ (SqT K H a xs ∨ SqL K H a xs) ∧ xs.length = n ∧ t xs σ H Q
theorem pg_seq {es : List Expr} {k : Nat} {pos : Pos} {t : TGs} {n : Nat} (hc : X.calm = true) (h : PGs X es t) (hn : (assignEach es X.env).length = n := by rfl) (hst : (assignEach es X.env).findIdx? (·.1) = none := by rfl) :
    PG X (.Tuple es k pos) (gSeq X.K n t) := by
  refine ⟨fun pins s σ H v u Q I r hw => ?_⟩
  obtain ⟨a, xs, e, hq | hq, hl, hw⟩ := hw
  · exact (pg_tup (n := n) hc h hn hst).run pins s σ H v u Q I r ⟨a, xs, e, hq, hl, hw⟩
  · exact (pg_lst (n := n) hc h hn hst).run pins s σ H v u Q I r ⟨a, xs, e, hq, hl, hw⟩
/-- for over a tuple or a list: whichever it is -/
def iSeq (K : PySem.W.Frag) (tl : TE) : TI := fun σ H R => tl σ H fun v H1 => ∃ (a : Addr) (xs : List V), v = .ref a ∧ (SqT K H1 a xs ∨ SqL K H1 a xs) ∧
  ∀ (J : It) (G : Hp → Prop), Walk J xs.length G (YAt xs) → (∀ H', Evl.Ex H1 H' → G H') → R J H1
theorem pi_seq {l : Expr} {tl : TE} (hl : PE X l tl) : PI X tg l (iSeq X.K tl) := by
  refine ⟨fun pins s σ H R I h => thn (hl.run pins s σ H _ I h) fun v s1 ⟨x, H1, I1, r1, q1⟩ => ?_⟩
  obtain ⟨a, xs, rfl, hq, q⟩ := q1
  cases (show v = Value.ref a from r1)
  have fin : ∀ b ∈ [s1.heap.objs.size], FpOk X pins H1 b := fun b hb => by
    rw [List.mem_singleton.mp hb]
    exact I1.fpOk (Nat.le_refl _) (I1.hok.fresh (Nat.le_refl _))
  rcases hq with hq | hq
  · obtain ⟨its, rv, p, hz⟩ := I1.tuple hq
    refine wpAny_pyIter_tuple (show s1.heap.IsTuple a its.toArray from p) ?_
    exact ⟨s1.heap.objs.size, [s1.heap.objs.size], _, _, H1, rfl, I1.kept (t' := s1.toks) (fun b o e => Heap.get?_push_of_some _ e), turn_tuple a _, ⟨_, Heap.get?_push_size _ rfl, rfl, rfl⟩, fin, q _ _ walk_tup fun H' e => Evl.ex_t e hq⟩
  · obtain ⟨its, rv, p, hz⟩ := I1.list hq
    refine wpAny_pyIter_list p.isList ?_
    exact ⟨s1.heap.objs.size, [s1.heap.objs.size], _, _, H1, rfl, I1.kept (t' := s1.toks) (fun b o e => Heap.get?_push_of_some _ e), turn_list a _, ⟨_, Heap.get?_push_size _ rfl, rfl, rfl⟩, fin, q _ _ walk_list fun H' e => Evl.ex_l e hq⟩

/-- f(k = v, ..) -/
def tCallW (sp : Sp) (gV : List V → List V) (E : XK) (tk : TA) : TE := fun σ H Q => tk σ H fun zs H2 => sp (gV zs) H2 Q E
structure KwOk (K : PySem.W.Frag) (fd : FuncData) (ps ks : List Str) (g : List Value → List Value) (gV : List V → List V) : Prop where
  to : ∀ (s : Shared) (ws : List Value), K.In s.heap → (g ws).length = ps.length → BindsTo s fd ⟨[], ks.zip ws⟩ (ps.zip (g ws))
  rel : ∀ {zs : List V} {ws : List Value}, Vals zs ws → Vals (gV zs) (g ws)
theorem pe_callW {CX : CXT} {k : Nat} {f : Addr} {fd : FuncData} {ps ks : List Str} {sp : Sp} {E : XK} {x : Str} {p pos : Pos} {kws : List Keyword} {tk : TA} {g : List Value → List Value} {gV : List V → List V}
    (F : FnOk X.prog X.w X.K X.mg X.base CX k f fd ps sp) (hr : Room k X.A) (hg : Gl X x) (hm : X.mg x = some (.ref f)) (hk : PySem.W.keepIn X.K (.ref f) = true) (hb : KwOk X.K fd ps ks g gV) (hx : Passes CX X E)
    (hkw : PK X kws tk) (hall : (backToKw pos (keywordEach kws X.env)).all (·.1.isSome) = true := by rfl) (hks : (backToKw pos (keywordEach kws X.env)).filterMap (·.1) = ks := by rfl)
    (hdb : (x == ("__debug__" : Str)) = false := by decide) (hpl : ((backTo pos (starEach [] X.env)).any (·.1) || (backToKw pos (keywordEach kws X.env)).any (·.1.isNone)) = false := by rfl) :
    PE X (.Call (.Name x p) [] kws pos) (tCallW sp gV E tk) := by
  refine ⟨fun pins s σ H Q I h => wpAny_Call_Name_kw (ld_glob I hg hm (PySem.W.callWith_KW0 (h₀ := X.base) I.ok.mod.kin hk hall ?_ hpl) hdb)⟩
  refine thn (hkw.run pos pins s σ H _ I h) fun ws s2 ⟨zs, H2, I2, rz, q2⟩ => ⟨I2.kIn, ?_⟩
  rw [hks]
  show wpAny _ _ (call (.ref f) [] (ks.zip ws)) _ _ _
  have r2 := hb.rel rz
  have hl : (g ws).length = ps.length := by rw [← r2.length]; exact F.len _ _ _ _ q2
  refine wpAny_call (codeAny_mono (F.run X.A X.stack s2 H2 ⟨[], ks.zip ws⟩ (g ws) (gV zs) Q E hr I2.env0 (hb.to s2 ws I2.kIn hl) r2 q2) fun r s' hq => ?_)
  cases r with
  | error e => exact hx pins σ H2 s2 e s' I2 hq
  | ok fl =>
    cases fl with
    | ret u => exact I2.after hq
    | next => exact False.elim hq
    | brk => exact False.elim hq
    | cont => exact False.elim hq

/-- len(set(ints)) -/
def tLenSet (K : PySem.W.Frag) (ta : TE) : TE := fun σ H Q => ta σ H fun x H1 => ∃ (l : Addr) (ns : List Int), x = .ref l ∧ SqL K H1 l (ns.map V.int) ∧ ns.length ≤ 4000 ∧ Q (.int ((PyProof.Rows.firstMet (fun i => ns.getD i 0) ns.length).length : Nat)) H1
theorem pe_lenSet {a : Expr} {ta : TE} {p p2 q pos : Pos} (hg : Gl X "len") (hm : X.mg "len" = none) (hg2 : Gl X "set") (hm2 : X.mg "set" = none) (ha : PE X a ta) (hc : X.calm = true := by rfl)
    (na : starEach [a] X.env = (false, eval a X.env) :: starEach [] X.env := by rfl) : PE X (.Call (.Name "len" p) [.Call (.Name "set" p2) [a] [] q] [] pos) (tLenSet X.K ta) := by
  refine ⟨fun pins s σ H Q I h => Call_ (ld_blt I hg hm boot_len (PyProof.Rows.callWith_builtin1 (PyProof.Rows.args_cons (Call_ (ld_blt I hg2 hm2 boot_set ?_)) rfl) rfl rfl))⟩
  refine PyProof.Rows.callWith_type1 (PyProof.Rows.args_cons (thn (ha.run pins s σ H _ I h) fun v s1 ⟨x, H1, I1, r1, q1⟩ => PyProof.Rows.args_nil ?_) na) na rfl
  obtain ⟨l, ns, rfl, hq, hl, q1⟩ := q1
  cases (show v = Value.ref l from r1)
  obtain ⟨its, r, pl, hz⟩ := I1.list hq
  have hlen : its.toArray.size = ns.length := by rw [List.size_toArray, ← r.length, List.length_map]
  refine call_set_list (I1.ok.hd hc) pl.isList (by simpa using RZ.intsAre_vals r) (by rw [hlen]; unfold scanBound; omega) fun h' tk hS hk => PyProof.Rows.args_nil ?_
  rw [hlen] at hS
  have hle := PyProof.Rows.firstMet_length_le (fun i => ns.getD i 0) ns.length
  obtain ⟨o, es, ep, t, ho, hex, hd, _, _, _, hf, hn⟩ := hS
  have I2 : Inv X pins σ H1 { s1 with heap := h', toks := tk } := I1.kept fun b o e => hk b o (Heap.lt_size e) e
  exact call_len_set ho hex hd hf (by rw [hn] <;> omega) ⟨.int _, H1, I2.tok _, ⟨_, by rw [hn]⟩, q1⟩
end
end Pu
set_option Elab.async false
set_option linter.all false
set_option maxRecDepth 100000
set_option maxHeartbeats 4000000
/-! what values are, at a heap; the builtins that tell it; a pure def as a promise of the layer. -/
namespace Pu
open PySem PySem.Spec PyProof.Rows L2 GxR

/-- a tuple (b = true) or a list of these, at a -/
def SeqG (g : Heap) (b : Bool) (a : Addr) (its : List Value) : Prop := its.length ≤ sizeLine ∧ if b = true then IsTup g a its.toArray else PlainL g a its.toArray
theorem SeqG.mono {g h : Heap} {b : Bool} {a : Addr} {its : List Value} (x : SeqG g b a its) (e : Ext g h) : SeqG h b a its := by
  refine ⟨x.1, ?_⟩
  cases b with
  | true =>
    obtain ⟨o, ho, r⟩ := (show IsTup g a its.toArray from x.2)
    exact ⟨o, e _ _ ho, r⟩
  | false => exact (show PlainL g a its.toArray from x.2).keeps e
inductive TyG (g : Heap) : V → String → Prop
  | non : TyG g .non "NoneType"
  | bl (b : Bool) : TyG g (.bl b) "bool"
  | int (i : Int) : TyG g (.int i) "int"
  | str (x : Str) : TyG g (.str x) "str"
  | tup {a : Addr} {its : List Value} (h : SeqG g true a its) : TyG g (.ref a) "tuple"
  | lst {a : Addr} {its : List Value} (h : SeqG g false a its) : TyG g (.ref a) "list"
theorem TyG.mono {g h : Heap} {x : V} {t : String} (y : TyG g x t) (e : Ext g h) : TyG h x t := by
  cases y with
  | non => exact .non
  | bl b => exact .bl b
  | int i => exact .int i
  | str x => exact .str x
  | tup q => exact .tup (q.mono e)
  | lst q => exact .lst (q.mono e)
theorem TyG.kit {K : PySem.W.Frag} {g : Heap} {x : V} {t : String} {u : Value} (y : TyG g x t) (r : RelV x u) : ∃ P : Heap → Prop, PySem.W.KitX K u (.type t) P ∧ P g ∧ u ≠ .builtin "__main__.__loader__#opaque" := by
  cases y with
  | non => cases (show u = Value.none from r); exact ⟨_, PySem.W.kitx_none, True.intro, fun z => nomatch z⟩
  | bl b => cases (show u = Value.bool b from r); exact ⟨_, PySem.W.kitx_bool, True.intro, fun z => nomatch z⟩
  | int i => obtain ⟨t, rfl⟩ := (show ∃ t, u = Value.int i t from r); exact ⟨_, PySem.W.kitx_int, True.intro, fun z => nomatch z⟩
  | str y => obtain ⟨t, rfl⟩ := (show ∃ t, u = Value.str y t from r); exact ⟨_, PySem.W.kitx_str, True.intro, fun z => nomatch z⟩
  | @tup a its q =>
    cases (show u = Value.ref a from r)
    obtain ⟨o, h1, h2, _⟩ := (show IsTup g a its.toArray from q.2)
    exact ⟨_, PySem.W.kitx_tuple, ⟨o, h1, h2⟩, fun z => nomatch z⟩
  | @lst a its q =>
    cases (show u = Value.ref a from r)
    obtain ⟨o, n, h1, h2, _⟩ := (show PlainL g a its.toArray from q.2)
    exact ⟨_, PySem.W.kitx_list, ⟨o, h1, h2⟩, fun z => nomatch z⟩
/-- what kind of thing an abstract heap tells -/
theorem TyG.of_sq {P : Program} {w : World} {K : PySem.W.Frag} {H : Hp} {h : Heap} {a : Addr} {xs : List V} (ok : HOk P w H h) (kin : K.In h) (q : SqT K H a xs ∨ SqL K H a xs) : ∃ (b : Bool) (its : List Value), Vals xs its ∧ SeqG h b a its := by
  rcases q with q | q
  · rcases q with q | ⟨o, its, n, hk, hc, hs, hz, r⟩
    · obtain ⟨z, its, r, p⟩ := q.ok ok
      exact ⟨true, its, r, by rw [← r.length]; exact z, p⟩
    · refine ⟨true, its.toList, r, by simpa using hz, ?_⟩
      exact ⟨o, kin a o hk, hc, n, by simpa using hs⟩
  · rcases q with q | ⟨o, its, n, hk, hc, hd, hs, hz, r⟩
    · obtain ⟨z, its, n, r, e⟩ := q.ok ok
      exact ⟨false, its, r, by rw [← r.length]; exact z, ⟨_, n, e, rfl, rfl, rfl⟩⟩
    · exact ⟨false, its.toList, r, by simpa using hz, ⟨o, n, kin a o hk, hc, hd, by simpa using hs⟩⟩
theorem TyG.seq {g : Heap} {b : Bool} {a : Addr} {its : List Value} (q : SeqG g b a its) : TyG g (.ref a) (if b = true then "tuple" else "list") := by
  cases b with
  | true => exact .tup q
  | false => exact .lst q

section
variable {P : Program} {w : World} {K : PySem.W.Frag} {mg : Str → Option Value} {base : Heap} {A : Around} {env : Env} {g : Heap}
/-- isinstance(x, T) -/
theorem ev_isi {p q pos : Pos} {e : Expr} {n : Str} {T t : String} {x : V} {b : Bool} (F : FrP K mg base A env g) (hg : env.kindOf "isinstance" = some .globalImplicit) (hm : mg "isinstance" = none) (he : EV P w A env g e x) (ty : TyG g x t)
    (hg2 : env.kindOf n = some .globalImplicit) (hm2 : mg n = none) (hv : bootBuiltins n = some (.type T)) (kb : kitB t T = some b) (hn : n ≠ "__name__" := by decide) (hd : (n == ("__debug__" : Str)) = false := by decide)
    (h1 : starEach [e, .Name n q] env = (false, eval e env) :: starEach [.Name n q] env := by rfl) (h2 : starEach [.Name n q] env = (false, eval (.Name n q) env) :: starEach [] env := by rfl)
    (hpl : (backTo pos (starEach [.Name n q] env)).any (·.1) = false := by rfl) (hvi : bootBuiltins "isinstance" = some (.builtin "isinstance") := by decide +kernel) : EV P w A env g (.Call (.Name "isinstance" p) [e, .Name n q] [] pos) (.bl b) := by
  refine ev_bltcall (vs := [x, .ty T]) F hg hm hvi (ea_cons he (ea_cons (ev_blt (v := .ty T) F hg2 hm2 hv rfl hn hd) ea_nil h2) h1) (fun s us Q E hx r hQ => ?_) (by decide) (by decide) h1 hpl
  obtain ⟨u1, u2, rfl, r1, r2⟩ := vals2 r
  cases (show u2 = Value.type T from r2)
  obtain ⟨Pp, Z, pp, hne⟩ := (ty.mono hx).kit (K := K) r1
  exact PySem.W.kia_one Z (F.mod.kin.keeps fun b o e => hx b o (F.ext b o e)) pp (kit_ty kb) hne fun tk => hQ _ s.heap tk rfl fun _ _ e => e
/-- isinstance(x, (T, ..)) -/
theorem ev_isiT {p pos tp : Pos} {k : Nat} {e : Expr} {es : List Expr} {Ts : List String} {t : String} {x : V} {b : Bool} (F : FrP K mg base A env g) (hg : env.kindOf "isinstance" = some .globalImplicit) (hm : mg "isinstance" = none) (he : EV P w A env g e x) (ty : TyG g x t)
    (ha : EA P w A env g es (Ts.map V.ty)) (kb : PySem.W.kitAny K (.type t) (Ts.map Value.type) = some b) (hl : Ts.length ≤ 1000)
    (h1 : starEach [e, .Tuple es k tp] env = (false, eval e env) :: starEach [.Tuple es k tp] env := by rfl) (h2 : starEach [.Tuple es k tp] env = (false, eval (.Tuple es k tp) env) :: starEach [] env := by rfl)
    (hpl : (backTo pos (starEach [.Tuple es k tp] env)).any (·.1) = false := by rfl) (hvi : bootBuiltins "isinstance" = some (.builtin "isinstance") := by decide +kernel) : EV P w A env g (.Call (.Name "isinstance" p) [e, .Tuple es k tp] [] pos) (.bl b) := fun s Q E hx hQ => by
  obtain ⟨mb, q1, q2⟩ := F.mod.blt
  have hb : Ext base s.heap := fun b o e => hx b o (F.ext b o e)
  refine wpAny_Call_Name_kw (Calls.Name_function_global F.kind hg (Calls.loadGlobal_builtin (by rw [F.glob]; exact F.mod.glob.keeps hb) hm (by rw [F.blt]; exact q1.keeps hb) ((q2 _ (by decide)).trans hvi) ?_) (by decide))
  refine PyProof.Rows.callWith_builtin1 ?_ h1 hpl
  rw [h1]
  show wpAny _ _ (spliced ((false, eval e env) :: backTo pos (starEach [.Tuple es k tp] env))) _ _ s
  refine Calls.spliced_cons (he s _ E hx fun u h' tk r hk => ?_)
  rw [h2]
  show wpAny _ _ (spliced ((false, eval (.Tuple es k tp) env) :: backTo pos (starEach [] env))) _ _ _
  refine Calls.spliced_cons (wpAny_Tuple_spliced (ha _ { s with heap := h', toks := tk } _ E (fun b o e => hk b o (hx b o e)) fun us h2 t2 r2 k2 => ⟨?_, Calls.spliced_nil ?_⟩))
  · rw [← r2.length, List.length_map]
    exact Nat.le_trans hl (by decide)
  · have e2 : us = Ts.map Value.type := by
      clear kb hl hQ ha
      induction Ts generalizing us with
      | nil => cases r2; rfl
      | cons T Ts ih =>
        cases r2 with
        | cons ra rb =>
          rw [show _ = Value.type T from ra, ih _ rb]
          rfl
    subst e2
    have kx : Ext s.heap (h2.push { cls := .type "tuple", data := .seq (Ts.map Value.type).toArray }) := fun b o e => Heap.get?_push_of_some _ (k2 b o (hk b o e))
    have gx : Ext g (h2.push { cls := .type "tuple", data := .seq (Ts.map Value.type).toArray }) := fun b o e => kx b o (hx b o e)
    obtain ⟨Pp, Z, pp, hne⟩ := (ty.mono gx).kit (K := K) r
    exact PySem.W.kia_tup Z (F.mod.kin.keeps fun b o e => gx b o (F.ext b o e)) pp (Heap.get?_push_size _ rfl) kb hne fun tk3 => hQ _ _ tk3 rfl kx
/-- len(x) of a tuple or a list -/
theorem ev_len {p pos : Pos} {e : Expr} {a : Addr} {bb : Bool} {its : List Value} (F : FrP K mg base A env g) (hg : env.kindOf "len" = some .globalImplicit) (hm : mg "len" = none) (he : EV P w A env g e (.ref a)) (sq : SeqG g bb a its)
    (h1 : starEach [e] env = (false, eval e env) :: starEach [] env := by rfl) (hpl : (backTo pos (starEach [] env)).any (·.1) = false := by rfl) : EV P w A env g (.Call (.Name "len" p) [e] [] pos) (.int its.length) := by
  refine ev_bltcall (vs := [.ref a]) F hg hm boot_len (ea_cons he ea_nil h1) (fun s us Q E hx r hQ => ?_) (by decide) (by decide) h1 hpl
  obtain ⟨u, rfl, r1⟩ := vals1 r
  cases (show u = Value.ref a from r1)
  have hl := line63
  have hz := (sq.mono hx).1
  have hsz : its.toArray.size = its.length := by simp
  have fin : ∀ t1 t2, Q (.int its.length t1) { s with toks := t2 } := fun t1 t2 => hQ _ s.heap t2 ⟨_, rfl⟩ fun _ _ e => e
  cases bb with
  | true => exact len_tuple (show IsTup s.heap a its.toArray from (sq.mono hx).2) (by rw [hsz]; omega) (by rw [hsz]; exact fin _ _)
  | false => exact Calls.call_len_list (show PlainL s.heap a its.toArray from (sq.mono hx).2).isList (by rw [hsz]; omega) (by rw [hsz]; exact fin _ _)
/-- x[i], i written -/
theorem ev_ix {pos : Pos} {e ie : Expr} {a : Addr} {bb : Bool} {its : List Value} {j : Nat} {u : Value} {v : V} (F : FrP K mg base A env g) (he : EV P w A env g e (.ref a)) (hi : EV P w A env g ie (.int j)) (sq : SeqG g bb a its) (hj : its[j]? = some u) (r : RelV v u) (hs : PlainIx ie := by exact fun _ _ => rfl) :
    EV P w A env g (.Subscript e ie pos) v := fun s Q E hx hQ => by
  refine Subscript_ (he s _ E hx fun o h' tk ro hk => hi { s with heap := h', toks := tk } _ E (fun b o e => hk b o (hx b o e)) fun iv h2 t2 ri k2 => ?_)
  cases (show o = Value.ref a from ro)
  obtain ⟨t, rfl⟩ := (show ∃ t, iv = Value.int j t from ri)
  have gx : Ext g h2 := fun b o e => k2 b o (hk b o (hx b o e))
  have lt : j < its.length := (List.getElem?_eq_some_iff.mp hj).1
  have hn := line63
  have hz := sq.1
  have fin : Q u { s with heap := h2, toks := t2 } := hQ u h2 t2 r fun b o e => k2 b o (hk b o e)
  have ej : its.toArray[j]? = some u := by simpa using hj
  cases bb with
  | true =>
    have p : IsTup h2 a its.toArray := (sq.mono gx).2
    exact subscriptTail_builtinR (x := u) p.typeIs slot_tuple_getitem.lookup
      (PyProof.Rows.getItem_tuple (j := j) (Q := fun r s' => r = u ∧ Q r s') p (by omega) (by omega) (seqIndex_of (by omega) (by simpa using lt)) ej ⟨rfl, fin⟩) (hs _ _)
  | false =>
    have p : PlainL h2 a its.toArray := (sq.mono gx).2
    exact item_listR p.isList (by omega) (by omega) (by simpa using ej) fin (hs _ _)
end

/-- a pure def as a promise of the layer -/
def spPure (P : Program) (w : World) (base : Heap) (ps : List Str) (sp : List V → Heap → V → Prop) : Sp := fun vs H Q _ => vs.length = ps.length ∧ ∃ v, (∀ h, HOk P w H h → Ext base h → sp vs h v) ∧ Q v H
theorem PF.ok {P : Program} {w : World} {K : PySem.W.Frag} {mg : Str → Option Value} {base : Heap} {k : Nat} {f : Addr} {fd : FuncData} {ps : List Str} {sp : List V → Heap → V → Prop} (G : PF P w K mg base k f fd ps sp) :
    FnOk P w K mg base CX0 k f fd ps (spPure P w base ps sp) := by
  refine ⟨fun vs H Q E h => h.1, fun A outer s H args us vs Q E hr e0 hb rv h => ?_⟩
  obtain ⟨hl, v, hv, hQ⟩ := h
  have hx : Ext base s.heap := fun b o e => (e0.bs b o e).1
  refine G.run A s args us vs v _ hr hx hb rv hl (hv _ e0.hok hx) fun u h' tk r hk => ?_
  exact ⟨v, H, rfl, e0.bare, Un.kept hk, e0.hok.kept hk, r, hQ⟩
end Pu
/-! shapes by numbers alone -/
namespace Sh
def counts (k m : Nat) : List Nat :=
  if h : k < m ∧ 2 ≤ k then (k - (m - k) % 2) :: counts k ((m - (k - (m - k) % 2)) / 2) else if 0 < m then [m] else []
termination_by m
decreasing_by omega
def tot : List Nat → Nat → Nat
  | [], _ => 0
  | c :: cs, s => tot cs (2 * s) + s * c
def sh (f : Nat) : List Nat → Nat → List (Nat × Nat)
  | [], _ => []
  | c :: cs, s => sh f cs (2 * s) ++ (List.range c).map fun j => (f + tot cs (2 * s) + s * j, s)
/-- the shape of rows f up to l -/
def shp (k f l : Nat) : List (Nat × Nat) := sh f (counts k (l - f)) 1
inductive Val (k : Nat) : List Nat → Prop
  | one {c : Nat} (h1 : 1 ≤ c) (h2 : c ≤ k) : Val k [c]
  | more {c d : Nat} {cs : List Nat} (h : c = k ∨ c + 1 = k) (r : Val k (d :: cs)) : Val k (c :: d :: cs)
theorem tot_scale : ∀ (cs : List Nat) (s : Nat), tot cs s = s * tot cs 1
  | [], s => rfl
  | c :: cs, s => by
    show tot cs (2 * s) + s * c = s * (tot cs (2 * 1) + 1 * c)
    rw [tot_scale cs (2 * s), tot_scale cs (2 * 1), Nat.mul_add, Nat.one_mul, ← Nat.mul_assoc, ← Nat.mul_assoc, Nat.mul_one, Nat.mul_comm 2 s]
theorem tot_cons (c : Nat) (cs : List Nat) : tot (c :: cs) 1 = 2 * tot cs 1 + c := by
  show tot cs (2 * 1) + 1 * c = _
  rw [tot_scale cs (2 * 1)]
  omega
theorem tot_pos {k : Nat} {cs : List Nat} (h : Val k cs) (_ : 2 ≤ k) : 0 < tot cs 1 := by
  induction h with
  | one h1 h2 => rw [tot_cons]; omega
  | more h r ih => rw [tot_cons]; omega
theorem counts_big {k m : Nat} (h : k < m) (hk : 2 ≤ k) : counts k m = (k - (m - k) % 2) :: counts k ((m - (k - (m - k) % 2)) / 2) := by
  rw [counts, dif_pos ⟨h, hk⟩]
theorem counts_small {k m : Nat} (h : ¬ k < m) : counts k m = if 0 < m then [m] else [] := by
  rw [counts, dif_neg fun z => h z.1]
theorem counts_zero (k : Nat) : counts k 0 = [] := by rw [counts_small (by omega)]; rfl
theorem counts_tot {k : Nat} (hk : 2 ≤ k) : ∀ m, tot (counts k m) 1 = m := by
  intro m
  induction m using Nat.strongRecOn with
  | ind m ih =>
    by_cases h : k < m
    · rw [counts_big h hk, tot_cons, ih _ (by omega)]
      omega
    · rw [counts_small h]
      by_cases h0 : 0 < m
      · rw [if_pos h0, tot_cons]
        show 2 * 0 + m = m
        omega
      · rw [if_neg h0]
        show 0 = m
        omega
theorem counts_val {k : Nat} (hk : 2 ≤ k) : ∀ m, 0 < m → Val k (counts k m) := by
  intro m
  induction m using Nat.strongRecOn with
  | ind m ih =>
    intro h0
    by_cases h : k < m
    · rw [counts_big h hk]
      have q := ih ((m - (k - (m - k) % 2)) / 2) (by omega) (by omega)
      generalize counts k ((m - (k - (m - k) % 2)) / 2) = cs at q
      cases q with
      | one a b => exact .more (by omega) (.one a b)
      | more a b => exact .more (by omega) (.more a b)
    · rw [counts_small h, if_pos h0]
      exact .one h0 (by omega)
theorem uniq {k : Nat} {cs : List Nat} (hk : 2 ≤ k) (h : Val k cs) : counts k (tot cs 1) = cs := by
  induction h with
  | @one c h1 h2 =>
    have e : tot [c] 1 = c := by rw [tot_cons]; show 2 * 0 + c = c; omega
    rw [e, counts_small (by omega), if_pos (show 0 < c from h1)]
  | @more c d cs h r ih =>
    have p := tot_pos r hk
    rw [tot_cons, counts_big (by omega) hk]
    have e1 : k - (2 * tot (d :: cs) 1 + c - k) % 2 = c := by omega
    rw [e1]
    have e2 : (2 * tot (d :: cs) 1 + c - c) / 2 = tot (d :: cs) 1 := by omega
    rw [e2, ih]
theorem val_ne {k : Nat} {cs : List Nat} (h : Val k cs) : cs ≠ [] := by
  cases h <;> simp
/-- the spans from some on are the shape from their first row on -/
theorem suffix {k : Nat} : ∀ (cs : List Nat) (s f j : Nat), Val k cs → ∃ cs' f', (cs' = [] ∨ Val k cs') ∧ (sh f cs s).drop j = sh f' cs' s ∧ f' + tot cs' s = f + tot cs s := by
  intro cs
  induction cs with
  | nil => intro s f j h; cases h
  | cons c cs ih =>
    intro s f j h
    -- within the block of the least size
    have blk : ∀ i, 1 ≤ c → (cs = [] ∨ Val k cs) → c ≤ k → ∃ cs' f', (cs' = [] ∨ Val k cs') ∧ ((List.range c).map fun j => (f + tot cs (2 * s) + s * j, s)).drop i = sh f' cs' s ∧ f' + tot cs' s = f + tot (c :: cs) s := by
      intro i h1 _ h2
      by_cases hi : i < c
      · refine ⟨[c - i], f + tot cs (2 * s) + s * i, .inr (.one (by omega) (by omega)), ?_, ?_⟩
        · show _ = [] ++ _
          rw [List.nil_append]
          apply List.ext_getElem
          · simp
          · intro n h1 h2
            simp only [List.getElem_drop, List.getElem_map, List.getElem_range]
            show (f + tot cs (2 * s) + s * (i + n), s) = (f + tot cs (2 * s) + s * i + 0 + s * n, s)
            rw [Nat.mul_add]
            simp only [Prod.mk.injEq, and_true]
            omega
        · show f + tot cs (2 * s) + s * i + (0 + s * (c - i)) = f + (tot cs (2 * s) + s * c)
          have : s * i + s * (c - i) = s * c := by rw [← Nat.mul_add]; congr 1; omega
          omega
      · refine ⟨[], f + tot (c :: cs) s, .inl rfl, ?_, rfl⟩
        rw [List.drop_of_length_le (by simp; omega)]
        rfl
    cases h with
    | one h1 h2 =>
      obtain ⟨cs', f', a, b, e⟩ := blk j h1 (.inl rfl) h2
      exact ⟨cs', f', a, by simpa [sh] using b, e⟩
    | @more _ d ds hc r =>
      by_cases hj : j ≤ (sh f (d :: ds) (2 * s)).length
      · by_cases hj2 : j < (sh f (d :: ds) (2 * s)).length
        · obtain ⟨cs', f', a, b, e⟩ := ih (2 * s) f j r
          have ne : cs' ≠ [] := fun z => by
            subst z
            have q : ((sh f (d :: ds) (2 * s)).drop j).length = 0 := by rw [b]; rfl
            rw [List.length_drop] at q
            omega
          have v : Val k cs' := a.resolve_left ne
          refine ⟨c :: cs', f', .inr ?_, ?_, ?_⟩
          · cases v with
            | one p q => exact .more hc (.one p q)
            | more p q => exact .more hc (.more p q)
          · show ((sh f (d :: ds) (2 * s)) ++ _).drop j = sh f' cs' (2 * s) ++ _
            rw [List.drop_append_of_le_length hj, b, e]
          · show f' + (tot cs' (2 * s) + s * c) = f + (tot (d :: ds) (2 * s) + s * c)
            omega
        · have hj3 : j = (sh f (d :: ds) (2 * s)).length := by omega
          by_cases c0 : c = 0
          · refine ⟨[], f + tot (c :: d :: ds) s, .inl rfl, ?_, rfl⟩
            rw [hj3, c0]
            simp [sh]
          · obtain ⟨cs', f', a, b, e⟩ := blk 0 (by omega) (.inr r) (by omega)
            refine ⟨cs', f', a, ?_, e⟩
            show ((sh f (d :: ds) (2 * s)) ++ _).drop j = _
            rw [hj3, List.drop_left]
            simpa using b
      · by_cases c0 : c = 0
        · refine ⟨[], f + tot (c :: d :: ds) s, .inl rfl, ?_, rfl⟩
          show ((sh f (d :: ds) (2 * s)) ++ _).drop j = _
          rw [List.drop_of_length_le (by rw [c0, List.length_append]; simp; omega)]
          rfl
        · obtain ⟨cs', f', a, b, e⟩ := blk (j - (sh f (d :: ds) (2 * s)).length) (by omega) (.inr r) (by omega)
          refine ⟨cs', f', a, ?_, e⟩
          show ((sh f (d :: ds) (2 * s)) ++ _).drop j = _
          rw [List.drop_append, List.drop_of_length_le (show (sh f (d :: ds) (2 * s)).length ≤ j by omega), List.nil_append]
          exact b

/-! ### within, in order -/
theorem sh_mem : ∀ (cs : List Nat) (s f : Nat) (p : Nat × Nat), p ∈ sh f cs s → f ≤ p.1 ∧ p.1 + p.2 ≤ f + tot cs s ∧ s ≤ p.2
  | [], _, _, _, h => by cases h
  | c :: cs, s, f, p, h => by
    rcases List.mem_append.mp h with h | h
    · obtain ⟨a, b, e⟩ := sh_mem cs (2 * s) f p h
      refine ⟨a, ?_, by omega⟩
      show p.1 + p.2 ≤ f + (tot cs (2 * s) + s * c)
      omega
    · obtain ⟨j, hj, rfl⟩ := List.mem_map.mp h
      have hj2 := List.mem_range.mp hj
      have q : s * (j + 1) ≤ s * c := Nat.mul_le_mul_left s hj2
      rw [Nat.mul_succ] at q
      refine ⟨?_, ?_, Nat.le_refl _⟩
      · show f ≤ f + tot cs (2 * s) + s * j
        omega
      · show f + tot cs (2 * s) + s * j + s ≤ f + (tot cs (2 * s) + s * c)
        omega
theorem sh_pair : ∀ (cs : List Nat) (s f : Nat), (sh f cs s).Pairwise fun a b => a.1 + a.2 ≤ b.1
  | [], _, _ => .nil
  | c :: cs, s, f => by
    refine List.pairwise_append.mpr ⟨sh_pair cs (2 * s) f, ?_, fun a ha b hb => ?_⟩
    · rw [List.pairwise_map]
      refine List.Pairwise.imp ?_ (List.pairwise_lt_range (n := c))
      intro i j h
      have q : s * (i + 1) ≤ s * j := Nat.mul_le_mul_left s h
      rw [Nat.mul_succ] at q
      show f + tot cs (2 * s) + s * i + s ≤ f + tot cs (2 * s) + s * j
      omega
    · have h1 := (sh_mem cs (2 * s) f a ha).2.1
      obtain ⟨j, _, rfl⟩ := List.mem_map.mp hb
      show a.1 + a.2 ≤ f + tot cs (2 * s) + s * j
      omega
/-- what does not lie below is what stands behind some spans -/
theorem filter_drop (b : Nat) : ∀ L : List (Nat × Nat), (L.Pairwise fun a b => a.1 + a.2 ≤ b.1) → ∃ j, L.filter (fun p => decide (b < p.1 + p.2)) = L.drop j
  | [], _ => ⟨0, rfl⟩
  | p :: L, h => by
    obtain ⟨h1, h2⟩ := List.pairwise_cons.mp h
    by_cases hp : b < p.1 + p.2
    · refine ⟨0, ?_⟩
      rw [List.drop_zero, List.filter_eq_self]
      intro q hq
      rcases List.mem_cons.mp hq with e | hq
      · rw [e]; exact decide_eq_true hp
      · have := h1 q hq
        exact decide_eq_true (by omega)
    · obtain ⟨j, hj⟩ := filter_drop b L h2
      refine ⟨j + 1, ?_⟩
      rw [List.filter_cons, if_neg (by simpa using hp), hj]
      rfl
/-- the first row of a shape -/
theorem sh_head {k : Nat} : ∀ {cs : List Nat} (_ : Val k cs) (_ : 2 ≤ k) (s f : Nat), ∃ m r, sh f cs s = (f, m) :: r
  | _, .one (c := c) h1 h2, _, s, f => by
    obtain ⟨d, rfl⟩ : ∃ d, c = d + 1 := ⟨c - 1, by omega⟩
    refine ⟨s, (List.range d).map fun j => (f + s * (j + 1), s), ?_⟩
    show [] ++ (List.range (d + 1)).map _ = _
    rw [List.nil_append, List.range_succ_eq_map, List.map_cons, List.map_map]
    rfl
  | _, .more (c := c) (d := d) (cs := cs) h r, hk, s, f => by
    obtain ⟨m, q, e⟩ := sh_head r hk (2 * s) f
    refine ⟨m, q ++ (List.range c).map fun j => (f + tot (d :: cs) (2 * s) + s * j, s), ?_⟩
    show sh f (d :: cs) (2 * s) ++ _ = _
    rw [e]
    rfl
def firstOf (L : List (Nat × Nat)) (l : Nat) : Nat := match L with
  | [] => l
  | p :: _ => p.1
theorem firstOf_sh {k f l : Nat} (hk : 2 ≤ k) (h : f ≤ l) : firstOf (shp k f l) l = f := by
  unfold shp
  by_cases e : l - f = 0
  · rw [e, counts_zero]
    show l = f
    omega
  · obtain ⟨m, r, q⟩ := sh_head (counts_val hk (l - f) (by omega)) hk 1 f
    rw [q]
    rfl
def gone (b : Nat) (L : List (Nat × Nat)) : List (Nat × Nat) := L.filter fun p => decide (b < p.1 + p.2)
/-- letting go leaves the shape of the row that is then the first -/
theorem gone_shp {k f l b : Nat} (hk : 2 ≤ k) (h : f ≤ l) : firstOf (gone b (shp k f l)) l ≤ l ∧ gone b (shp k f l) = shp k (firstOf (gone b (shp k f l)) l) l := by
  by_cases e : l - f = 0
  · have e2 : shp k f l = [] := by
      unfold shp
      rw [e, counts_zero]
      rfl
    rw [e2]
    refine ⟨Nat.le_refl _, ?_⟩
    show [] = shp k l l
    unfold shp
    rw [Nat.sub_self, counts_zero]
    rfl
  · have v := counts_val hk (l - f) (by omega)
    have t := counts_tot hk (l - f)
    obtain ⟨j, hj⟩ := filter_drop b (shp k f l) (sh_pair _ _ _)
    obtain ⟨cs', f', a, q, e2⟩ := suffix _ 1 f j v
    have g : gone b (shp k f l) = sh f' cs' 1 := hj.trans q
    rw [g]
    rw [t] at e2
    rcases a with a | a
    · subst a
      have e3 : f' = l := by
        have : f' + 0 = f + (l - f) := e2
        omega
      refine ⟨Nat.le_refl _, ?_⟩
      show [] = shp k l l
      unfold shp
      rw [Nat.sub_self, counts_zero]
      rfl
    · obtain ⟨m, r, q2⟩ := sh_head a hk 1 f'
      have e3 : firstOf (sh f' cs' 1) l = f' := by rw [q2]; rfl
      have e4 : l - f' = tot cs' 1 := by omega
      have p := tot_pos a hk
      rw [e3]
      refine ⟨by omega, ?_⟩
      unfold shp
      rw [e4, uniq hk a]
/-- how many of each size -/
theorem sizes_sh : ∀ (cs : List Nat) (s f : Nat), (sh f cs s).map (·.2) = (sh 0 cs s).map (·.2)
  | [], _, _ => rfl
  | c :: cs, s, f => by
    show (sh f cs (2 * s) ++ _).map _ = (sh 0 cs (2 * s) ++ _).map _
    rw [List.map_append, List.map_append, sizes_sh cs (2 * s) f, List.map_map, List.map_map]
    rfl
theorem size_in : ∀ (cs : List Nat) (s f : Nat) (p : Nat × Nat), p ∈ sh f cs s → ∃ i, i < cs.length ∧ p.2 = s * 2 ^ i
  | [], _, _, _, h => by cases h
  | c :: cs, s, f, p, h => by
    rcases List.mem_append.mp h with h | h
    · obtain ⟨i, hi, e⟩ := size_in cs (2 * s) f p h
      exact ⟨i + 1, by simpa using hi, by rw [e, Nat.pow_succ, Nat.mul_comm 2 s, Nat.mul_assoc, Nat.mul_comm 2]⟩
    · obtain ⟨j, _, rfl⟩ := List.mem_map.mp h
      exact ⟨0, by simp, by simp⟩
theorem count_sh : ∀ (cs : List Nat) (s f i : Nat), 0 < s → i < cs.length → ((sh f cs s).filter fun p => decide (p.2 = s * 2 ^ i)).length = cs.getD i 0
  | [], _, _, _, _, h => by simp at h
  | c :: cs, s, f, 0, hs, _ => by
    show ((sh f cs (2 * s) ++ (List.range c).map _).filter _).length = c
    rw [List.filter_append, List.length_append]
    have e1 : (sh f cs (2 * s)).filter (fun p => decide (p.2 = s * 2 ^ 0)) = [] := by
      rw [List.filter_eq_nil_iff]
      intro p hp
      have := (sh_mem cs (2 * s) f p hp).2.2
      simp
      omega
    have e2 : ((List.range c).map fun j => (f + tot cs (2 * s) + s * j, s)).filter (fun p => decide (p.2 = s * 2 ^ 0)) = (List.range c).map fun j => (f + tot cs (2 * s) + s * j, s) := by
      rw [List.filter_eq_self]
      intro p hp
      obtain ⟨j, _, rfl⟩ := List.mem_map.mp hp
      simp
    rw [e1, e2, List.length_map, List.length_range]
    simp
  | c :: cs, s, f, i + 1, hs, h => by
    show ((sh f cs (2 * s) ++ (List.range c).map _).filter _).length = cs.getD i 0
    rw [List.filter_append, List.length_append]
    have e2 : ((List.range c).map fun j => (f + tot cs (2 * s) + s * j, s)).filter (fun p => decide (p.2 = s * 2 ^ (i + 1))) = [] := by
      rw [List.filter_eq_nil_iff]
      intro p hp
      obtain ⟨j, _, rfl⟩ := List.mem_map.mp hp
      have : 1 < 2 ^ (i + 1) := Nat.one_lt_two_pow (by omega)
      have q : s * 1 < s * 2 ^ (i + 1) := Nat.mul_lt_mul_of_pos_left this hs
      simp
      omega
    have e3 : s * 2 ^ (i + 1) = 2 * s * 2 ^ i := by rw [Nat.pow_succ, Nat.mul_comm 2 s, Nat.mul_assoc, Nat.mul_comm 2]
    rw [e2, e3, count_sh cs (2 * s) f i (by omega) (by simpa using h)]
    rfl
theorem val_pos {k : Nat} {cs : List Nat} (h : Val k cs) (hk : 2 ≤ k) : ∀ i, i < cs.length → 1 ≤ cs.getD i 0 := by
  induction h with
  | one h1 h2 =>
    intro i hi
    have : i = 0 := by simpa using hi
    subst this
    exact h1
  | more h r ih =>
    intro i hi
    cases i with
    | zero => show 1 ≤ _; simp; omega
    | succ i => exact ih i (by simpa using hi)
theorem val_le {k : Nat} {cs : List Nat} (h : Val k cs) : ∀ i, cs.getD i 0 ≤ k := by
  induction h with
  | one h1 h2 =>
    intro i
    cases i with
    | zero => exact h2
    | succ i => simp
  | more h r ih =>
    intro i
    cases i with
    | zero => show _ ≤ _; simp; omega
    | succ i => exact ih i
theorem counts_le {k : Nat} (hk : 2 ≤ k) (m i : Nat) : (counts k m).getD i 0 ≤ k := by
  by_cases h : 0 < m
  · exact val_le (counts_val hk m h) i
  · have : m = 0 := by omega
    rw [this, counts_zero]
    simp
theorem tot_drop : ∀ (cs : List Nat) (i : Nat), tot (cs.drop i) (2 ^ i) ≤ tot cs 1
  | cs, 0 => Nat.le_refl _
  | [], i + 1 => by simp [tot]
  | c :: cs, i + 1 => by
    have h := tot_drop cs i
    rw [tot_cons]
    show tot (cs.drop i) (2 ^ (i + 1)) ≤ _
    rw [tot_scale] at h ⊢
    rw [Nat.pow_succ, Nat.mul_comm (2 ^ i) 2, Nat.mul_assoc]
    omega
theorem counts_len (k : Nat) (hk : 2 ≤ k) : ∀ m, (counts k m).length ≤ m := by
  intro m
  induction m using Nat.strongRecOn with
  | ind m ih =>
    by_cases h : k < m
    · rw [counts_big h hk, List.length_cons]
      have := ih ((m - (k - (m - k) % 2)) / 2) (by omega)
      omega
    · rw [counts_small h]
      by_cases h0 : 0 < m
      · rw [if_pos h0]; exact h0
      · rw [if_neg h0]; exact Nat.zero_le _
theorem sh_len : ∀ (cs : List Nat) (s f : Nat), 0 < s → (sh f cs s).length ≤ tot cs s
  | [], _, _, _ => Nat.le_refl _
  | c :: cs, s, f, hs => by
    have h := sh_len cs (2 * s) f (by omega)
    show (sh f cs (2 * s) ++ (List.range c).map _).length ≤ tot cs (2 * s) + s * c
    rw [List.length_append, List.length_map, List.length_range]
    have : 1 * c ≤ s * c := Nat.mul_le_mul_right c hs
    omega
theorem shp_len {k f l : Nat} (hk : 2 ≤ k) : (shp k f l).length ≤ l - f := by
  have h := sh_len (counts k (l - f)) 1 f (by omega)
  rw [counts_tot hk] at h
  exact h
theorem shp_mem {k f l : Nat} (hk : 2 ≤ k) (h : f ≤ l) {p : Nat × Nat} (hp : p ∈ shp k f l) : f ≤ p.1 ∧ p.1 + p.2 ≤ l ∧ 1 ≤ p.2 := by
  obtain ⟨a, b, c⟩ := sh_mem _ _ _ _ hp
  rw [counts_tot hk] at b
  exact ⟨a, by omega, c⟩
end Sh
set_option Elab.async false
set_option linter.all false
set_option maxRecDepth 100000
set_option maxHeartbeats 4000000
namespace Pu
open PySem PySem.Spec PyProof.Rows L2 GxR Evl
/-- a comprehension: acc by the turn and the heap -/
theorem lc_gen {J : It} {n : Nat} {G : Hp → Prop} {Y : Nat → Hp → V → Hp → Prop} (w : Walk J n G Y) {g : TG} {tt : TT} {te : TE} {vs : List Nat} {σ : L2.St} {H1 : Hp} {D : Addr} {Qd : Hp → Prop} (R : Nat → Hp → List V → Prop) (hn : n ≤ 40000) (hD : H1 D = none)
    (hU : ∀ i H xs ys acc, H D = some (.lst xs) → R i H acc → R i (upd H D (.lst ys)) acc) (h0 : R 0 (upd H1 D (.lst [])) []) (hG : ∀ H, Ex H1 H → G H)
    (turn : ∀ i x H H' acc, i < n → Ex H1 H → Y i H x H' → R i H acc → ∀ (Qy : V → Hp → Prop) (Qn : Hp → Prop), (∀ y H4, Ex H H4 → R (i + 1) H4 (acc ++ [y]) → Qy y H4) → (∀ H3, Ex H H3 → R (i + 1) H3 acc → Qn H3) →
      g x (wipe σ vs) H' fun σ2 H2 => wipe σ2 vs = wipe σ vs ∧ tt σ2 H2 fun b H3 => if b = true then te σ2 H3 Qy else Qn H3)
    (hd : ∀ H acc, Ex H1 H → H D = some (.lst acc) → R n H acc → Qd H) :
    ∃ W : Nat → Nat → Hp → Prop, (∃ m, W 0 m (upd H1 D (.lst []))) ∧ ∀ i m H, W i m H →
      (J.stop i H ∧ Qd H) ∨ (J.go i H ∧ ∃ Nx : Hp → Prop, (∀ H', Nx H' → ∃ m', m' < m ∧ W (i + 1) m' H') ∧ ∀ x H', J.yld i H x H' → g x (wipe σ vs) H' fun σ2 H2 => wipe σ2 vs = wipe σ vs ∧ tt σ2 H2 fun b H3 =>
        if b = true then te σ2 H3 fun y H4 => ∃ acc, H4 D = some (.lst acc) ∧ acc.length < sizeLine ∧ Nx (upd H4 D (.lst (acc ++ [y]))) else Nx H3) := by
  refine lc_it w (fun i H => Ex H1 H ∧ ∃ acc, H D = some (.lst acc) ∧ acc.length ≤ i ∧ R i H acc) ⟨Ex.new hD, [], upd_same, Nat.le_refl _, h0⟩ (fun i H _ p => hG H p.1) (fun i x H H' hi p y => ?_) fun H p => ?_
  · obtain ⟨ex, acc, hH, hl, hR⟩ := p
    refine turn i x H H' acc hi ex y hR _ _ (fun v H4 e4 r4 => ?_) fun H3 e3 r3 => ⟨ex.trans e3, acc, e3 D _ hH, Nat.le_succ_of_le hl, r3⟩
    have hz : acc.length < sizeLine := Nat.lt_of_le_of_lt (show acc.length ≤ 40000 by omega) (by decide)
    refine ⟨acc, e4 D _ hH, hz, Ex.mut (ex.trans e4) hD, acc ++ [v], upd_same, ?_, hU _ _ _ _ _ (e4 D _ hH) r4⟩
    rw [List.length_append, List.length_singleton]
    omega
  · obtain ⟨ex, acc, hH, _, hR⟩ := p
    exact hd H acc ex hH hR
theorem yes_then {te : TE} {σ : L2.St} {H : Hp} {Qy : VK} {Qn : Hp → Prop} (h : te σ H Qy) : tYes σ H fun b H3 => if b = true then te σ H3 Qy else Qn H3 := by
  show (if true = true then te σ H Qy else Qn H)
  rw [if_pos rfl]
  exact h
/-- pairs of numbers, each a tuple -/
def PrT (H : Hp) (L : List (Nat × Nat)) (xs : List V) : Prop := Paired (fun (p : Nat × Nat) (v : V) => ∃ b, v = .ref b ∧ H b = some (.tup [.int (p.1 : Nat), .int (p.2 : Nat)])) L xs
theorem PrT.ex {H H' : Hp} {L : List (Nat × Nat)} {xs : List V} (h : PrT H L xs) (e : Ex H H') : PrT H' L xs := Paired.mapP h fun p v ⟨b, h1, h2⟩ => ⟨b, h1, e _ _ h2⟩
theorem PrT.upd {H : Hp} {L : List (Nat × Nat)} {xs ys : List V} {D : Addr} {o : HO} (h : PrT H L xs) (hD : H D = some (.lst ys)) : PrT (upd H D o) L xs := Paired.mapP h fun p v ⟨b, h1, h2⟩ =>
  ⟨b, h1, by rw [upd_ne (ne_of h2 hD (by intro z; cases z))]; exact h2⟩
theorem Paired.app {α β : Type} {F : α → β → Prop} : ∀ {l : List α} {m : List β} {l' : List α} {m' : List β}, Paired F l m → Paired F l' m' → Paired F (l ++ l') (m ++ m')
  | _, _, _, _, .nil, s => s
  | _, _, _, _, .cons r t, s => .cons r (Paired.app t s)
theorem PrT.snoc {H : Hp} {L : List (Nat × Nat)} {xs : List V} {p : Nat × Nat} {b : Addr} (h : PrT H L xs) (e : H b = some (.tup [.int (p.1 : Nat), .int (p.2 : Nat)])) : PrT H (L ++ [p]) (xs ++ [.ref b]) := Paired.app h (.cons ⟨b, rfl, e⟩ .nil)
theorem Paired.at {α β : Type} {F : α → β → Prop} : ∀ {l : List α} {m : List β} {i : Nat} {y : β}, Paired F l m → m[i]? = some y → ∃ x, l[i]? = some x ∧ F x y
  | _, _, _, _, .nil, e => by simp at e
  | _, _, 0, _, .cons r _, e => by simp at e; subst e; exact ⟨_, rfl, r⟩
  | _, _, i + 1, y, .cons _ t, e => by
    obtain ⟨x, h1, h2⟩ := Paired.at (i := i) (y := y) t (by simpa using e)
    exact ⟨x, by simpa using h1, h2⟩
theorem PrT.len {H : Hp} {L : List (Nat × Nat)} {xs : List V} (h : PrT H L xs) : L.length = xs.length := Paired.length h
/-- the call of a def that hands back a new tuple -/
theorem eu_call {pre : List V → Hp → List V → Prop} {K : PySem.W.Frag} {σ : L2.St} {H : Hp} {ta : TA} {vs xs : List V} {E : XK} (h : EvA ta σ H vs) (hp : ∀ H1, Ex H H1 → pre (vs ++ []) H1 xs) :
    EvU (tCall (fun vs H Q _ => ∃ xs, pre vs H xs ∧ ∀ p H', H p = none → Ex H H' → H' p = some (.tup xs) → Q (.ref p) H') [] E ta) σ H xs := fun H1 e Q q =>
  h H1 e _ fun H2 e2 => ⟨xs, hp H2 (e.trans e2), fun p H3 hn e3 h3 => q p H3 (fresh_back e2 hn) (e2.trans e3) h3⟩
end Pu
namespace Pu
open PySem PySem.Spec PyProof.Rows L2 GxR Evl
/-- a tuple or a list -/
def SqE (K : PySem.W.Frag) (H : Hp) (a : Addr) (xs : List V) : Prop := SqT K H a xs ∨ SqL K H a xs
theorem SqE.ex {K : PySem.W.Frag} {H H' : Hp} {a : Addr} {xs : List V} (q : SqE K H a xs) (e : Ex H H') : SqE K H' a xs := q.elim (fun q => .inl (ex_t e q)) fun q => .inr (ex_l e q)
/-- pairs of numbers, each a tuple or a list -/
def PrIn (K : PySem.W.Frag) (H : Hp) (L : List (Nat × Nat)) (xs : List V) : Prop := Paired (fun (p : Nat × Nat) (v : V) => ∃ b, v = .ref b ∧ SqE K H b [.int (p.1 : Nat), .int (p.2 : Nat)]) L xs
theorem PrIn.ex {K : PySem.W.Frag} {H H' : Hp} {L : List (Nat × Nat)} {xs : List V} (h : PrIn K H L xs) (e : Ex H H') : PrIn K H' L xs := Paired.mapP h fun p v ⟨b, h1, h2⟩ => ⟨b, h1, h2.ex e⟩
theorem PrT.in {K : PySem.W.Frag} {H : Hp} {L : List (Nat × Nat)} {xs : List V} (h : PrT H L xs) : PrIn K H L xs := Paired.mapP h fun p v ⟨b, h1, h2⟩ => ⟨b, h1, .inl (SqT.of h2)⟩
def ShIn (K : PySem.W.Frag) (H : Hp) (L : List (Nat × Nat)) (v : V) : Prop := ∃ a xs, v = .ref a ∧ SqE K H a xs ∧ PrIn K H L xs
theorem ShIn.ex {K : PySem.W.Frag} {H H' : Hp} {L : List (Nat × Nat)} {v : V} (h : ShIn K H L v) (e : Ex H H') : ShIn K H' L v := by
  obtain ⟨a, xs, h1, h2, h3⟩ := h
  exact ⟨a, xs, h1, h2.ex e, h3.ex e⟩
theorem ShIn.of {K : PySem.W.Frag} {H : Hp} {L : List (Nat × Nat)} {p : Addr} {xs : List V} (h : H p = some (.tup xs)) (q : PrT H L xs) : ShIn K H L (.ref p) := ⟨p, xs, rfl, .inl (SqT.of h), q.in⟩
theorem test_then {tt : TT} {te : TE} {σ : L2.St} {H : Hp} {b : Bool} {Qy : VK} {Qn : Hp → Prop} (ht : EvT tt σ H b) (h1 : b = true → ∀ H1, Ex H H1 → te σ H1 Qy) (h2 : b = false → ∀ H1, Ex H H1 → Qn H1) :
    tt σ H fun b H3 => if b = true then te σ H3 Qy else Qn H3 := ht H (Ex.refl H) _ fun H1 e => by
  cases b with
  | true =>
    rw [if_pos rfl]
    exact h1 rfl H1 e
  | false =>
    rw [if_neg Bool.false_ne_true]
    exact h2 rfl H1 e
end Pu
namespace Pu
open PySem PySem.Spec PyProof.Rows L2 GxR Evl
/-- all kept but the table at T, which may have grown -/
def ExT (T : Addr) (H H' : Hp) : Prop := TabG H' T ∧ ∀ b o, b ≠ T → H b = some o → H' b = some o
theorem ExT.of_tab {T : Addr} {H H' : Hp} (t : Tabbed T H H') : ExT T H H' := ⟨t.1, fun b o hb e => by rw [t.2 b hb]; exact e⟩
theorem TabG.ex {T : Addr} {H H' : Hp} (t : TabG H T) (e : Ex H H') : TabG H' T := by
  obtain ⟨ps, h, r⟩ := t
  exact ⟨ps, e _ _ h, r⟩
theorem ExT.ex {T : Addr} {H H1 H2 : Hp} (a : ExT T H H1) (e : Ex H1 H2) : ExT T H H2 := ⟨TabG.ex a.1 e, fun b o hb h => e _ _ (a.2 b o hb h)⟩
theorem ExT.ex' {T : Addr} {H H1 H2 : Hp} (e : Ex H H1) (a : ExT T H1 H2) : ExT T H H2 := ⟨a.1, fun b o hb h => a.2 b o hb (e _ _ h)⟩
theorem ExT.refl {T : Addr} {H : Hp} (t : TabG H T) : ExT T H H := ⟨t, fun _ _ _ h => h⟩
theorem ExT.trans {T : Addr} {H H1 H2 : Hp} (a : ExT T H H1) (b : ExT T H1 H2) : ExT T H H2 := ⟨b.1, fun c o hc h => b.2 c o hc (a.2 c o hc h)⟩
theorem ExT.fresh {T : Addr} {H H' : Hp} {p : Addr} (t : TabG H T) (a : ExT T H H') (h : H' p = none) : H p = none := by
  cases e : H p with
  | none => rfl
  | some o =>
    by_cases z : p = T
    · obtain ⟨ps, q, _⟩ := a.1
      rw [z, q] at h
      cases h
    · rw [a.2 p o z e] at h
      cases h
theorem TabG.ne {T a : Addr} {H : Hp} {o : HO} (t : TabG H T) (h : H a = some o) (n : ∀ ps, o ≠ .tbl ps) : a ≠ T := fun z => by
  obtain ⟨ps, q, _⟩ := t
  rw [z, q] at h
  exact n ps (Option.some.inj h).symm
theorem rd_exT {T a : Addr} {H H' : Hp} {u : HO} (t : TabG H T) (e : ExT T H H') (n : ∀ ps, u ≠ .tbl ps) (h : Rd H a u) : Rd H' a u := by
  rcases h with h | ⟨o, h⟩
  · exact .inl (e.2 _ _ (TabG.ne t h n) h)
  · exact .inr ⟨o, e.2 _ _ (TabG.ne t h fun ps z => by cases z) h⟩
theorem SqT.exT {K : PySem.W.Frag} {T a : Addr} {H H' : Hp} {xs : List V} (t : TabG H T) (e : ExT T H H') (q : SqT K H a xs) : SqT K H' a xs := q.imp (rd_exT t e fun ps z => by cases z) id
theorem SqL.exT {K : PySem.W.Frag} {T a : Addr} {H H' : Hp} {xs : List V} (t : TabG H T) (e : ExT T H H') (q : SqL K H a xs) : SqL K H' a xs := q.imp (rd_exT t e fun ps z => by cases z) id
theorem SqE.exT {K : PySem.W.Frag} {T a : Addr} {H H' : Hp} {xs : List V} (t : TabG H T) (e : ExT T H H') (q : SqE K H a xs) : SqE K H' a xs := q.imp (SqT.exT t e) (SqL.exT t e)
theorem PrIn.exT {K : PySem.W.Frag} {T : Addr} {H H' : Hp} {L : List (Nat × Nat)} {xs : List V} (t : TabG H T) (e : ExT T H H') (h : PrIn K H L xs) : PrIn K H' L xs := Paired.mapP h fun p v ⟨b, h1, h2⟩ => ⟨b, h1, h2.exT t e⟩
theorem PrT.exT {T : Addr} {H H' : Hp} {L : List (Nat × Nat)} {xs : List V} (t : TabG H T) (e : ExT T H H') (h : PrT H L xs) : PrT H' L xs := Paired.mapP h fun p v ⟨b, h1, h2⟩ => ⟨b, h1, e.2 _ _ (TabG.ne t h2 fun ps z => by cases z) h2⟩
theorem ShIn.exT {K : PySem.W.Frag} {T : Addr} {H H' : Hp} {L : List (Nat × Nat)} {v : V} (t : TabG H T) (e : ExT T H H') (h : ShIn K H L v) : ShIn K H' L v := by
  obtain ⟨a, xs, h1, h2, h3⟩ := h
  exact ⟨a, xs, h1, h2.exT t e, h3.exT t e⟩
/-- pairs of numbers, each a tuple that is read -/
def PrS (K : PySem.W.Frag) (H : Hp) (L : List (Nat × Nat)) (xs : List V) : Prop := Paired (fun (p : Nat × Nat) (v : V) => ∃ b, v = .ref b ∧ SqT K H b [.int (p.1 : Nat), .int (p.2 : Nat)]) L xs
theorem PrS.ex {K : PySem.W.Frag} {H H' : Hp} {L : List (Nat × Nat)} {xs : List V} (h : PrS K H L xs) (e : Ex H H') : PrS K H' L xs := Paired.mapP h fun p v ⟨b, h1, h2⟩ => ⟨b, h1, ex_t e h2⟩
theorem SqT.upd {K : PySem.W.Frag} {H : Hp} {b D : Addr} {xs ys : List V} {o : HO} (h : SqT K H b xs) (hD : H D = some (.lst ys)) : SqT K (upd H D o) b xs := by
  rcases h with (h | ⟨u, h⟩) | h
  · exact .inl (.inl (by rw [upd_ne (ne_of h hD (by intro z; cases z))]; exact h))
  · exact .inl (.inr ⟨u, by rw [upd_ne (ne_of h hD (by intro z; cases z))]; exact h⟩)
  · exact .inr h
theorem PrS.upd {K : PySem.W.Frag} {H : Hp} {L : List (Nat × Nat)} {xs ys : List V} {D : Addr} {o : HO} (h : PrS K H L xs) (hD : H D = some (.lst ys)) : PrS K (upd H D o) L xs := Paired.mapP h fun p v ⟨b, h1, h2⟩ => ⟨b, h1, SqT.upd h2 hD⟩
theorem PrS.in {K : PySem.W.Frag} {H : Hp} {L : List (Nat × Nat)} {xs : List V} (h : PrS K H L xs) : PrIn K H L xs := Paired.mapP h fun p v ⟨b, h1, h2⟩ => ⟨b, h1, .inl h2⟩
theorem PrT.s {K : PySem.W.Frag} {H : Hp} {L : List (Nat × Nat)} {xs : List V} (h : PrT H L xs) : PrS K H L xs := Paired.mapP h fun p v ⟨b, h1, h2⟩ => ⟨b, h1, SqT.of h2⟩
/-- pairs as data -/
def dPair (p : Nat × Nat) : PyData := .tuple [.int (p.1 : Nat), .int (p.2 : Nat)]
def dShape (L : List (Nat × Nat)) : PyData := .tuple (L.map dPair)
theorem dpPairs {K : PySem.W.Frag} {H : Hp} : ∀ {L : List (Nat × Nat)} {xs : List V}, PrS K H L xs → DpAll K H xs (L.map dPair)
  | _, _, .nil => .nil
  | _, _, .cons ⟨b, e, h⟩ t => by
    subst e
    exact .cons (.tup h (.cons (.int _) (.cons (.int _) .nil))) (dpPairs t)
theorem dpShape {K : PySem.W.Frag} {H : Hp} {a : Addr} {L : List (Nat × Nat)} {xs : List V} (h : SqT K H a xs) (q : PrS K H L xs) : Dp K H (.ref a) (dShape L) := .tup h (dpPairs q)
theorem pairs_lay : ∀ L : List (Nat × Nat), PyData.canLayAll0 (L.map dPair) = true
  | [] => rfl
  | p :: L => by
    show ((PyData.canLay0 (.int (p.1 : Nat)) && (PyData.canLay0 (.int (p.2 : Nat)) && PyData.canLayAll0 [])) && PyData.canLayAll0 (L.map dPair)) = true
    rw [pairs_lay L]
    rfl
theorem pairs_depth : ∀ L : List (Nat × Nat), PyData.depthAll (L.map dPair) ≤ 1
  | [] => Nat.zero_le _
  | p :: L => by
    show max (PyData.depth (dPair p)) (PyData.depthAll (L.map dPair)) ≤ 1
    exact Nat.max_le.mpr ⟨Nat.le_refl 1, pairs_depth L⟩
theorem shape_shaped (L : List (Nat × Nat)) : SeqAt.shaped (dShape L) = true := by
  have h1 : PyData.canLay0 (dShape L) = true := pairs_lay L
  have h2 : PyData.depth (dShape L) ≤ 64 := by
    show PyData.depthAll (L.map dPair) + 1 ≤ 64
    have := pairs_depth L
    omega
  unfold SeqAt.shaped
  rw [h1, decide_eq_true h2]
  rfl
theorem pairs_eqv : ∀ L : List (Nat × Nat), PyData.eqvAll (L.map dPair) (L.map dPair) = true
  | [] => rfl
  | p :: L => by
    show (PyData.eqv (dPair p) (dPair p) && PyData.eqvAll (L.map dPair) (L.map dPair)) = true
    rw [pairs_eqv L]
    simp [dPair, PyData.eqv, PyData.eqvAll]
theorem shape_eqv (L : List (Nat × Nat)) : PyData.eqv (dShape L) (dShape L) = true := by
  show PyData.eqv (.tuple _) (.tuple _) = true
  rw [PyData.eqv]
  exact pairs_eqv L
/-- tuple(x) -/
def rTupleOf (K : PySem.W.Frag) (xs : List V) (H : Hp) (Q : VK) : Prop := ∃ p ys, xs = [.ref p] ∧ ((SqL K H p ys ∧ ∀ l, H l = none → Q (.ref l) (upd H l (.tup ys))) ∨ (SqT K H p ys ∧ Q (.ref p) H))
/-- a tracked tuple or list at a heap that keeps all but the table -/
theorem seq_at {P : Program} {w : World} {K : PySem.W.Frag} {H1 : Hp} {g : Heap} {T b : Addr} {xs : List V} (t : TabG H1 T) (ok : ∀ c ho, c ≠ T → H1 c = some ho → ObjOk P w H1 g c ho) (kin : K.In g) (q : SqE K H1 b xs) : ∃ (bb : Bool) (its : List Value), Vals xs its ∧ SeqG g bb b its := by
  have rd : ∀ {u : HO}, Rd H1 b u → (∀ ps, u ≠ .tbl ps) → ObjOk P w H1 g b u := fun {u} h n => by
    rcases h with h | ⟨o, h⟩
    · exact ok b _ (TabG.ne t h n) h
    · exact (ok b _ (TabG.ne t h fun ps z => by cases z) h).2
  rcases q with (q | ⟨o, its, n, hk, hc, hs, hz, r⟩) | (q | ⟨o, its, n, hk, hc, hd, hs, hz, r⟩)
  · obtain ⟨z, its, r, p⟩ := rd q fun ps z => by cases z
    exact ⟨true, its, r, by rw [← r.length]; exact z, p⟩
  · exact ⟨true, its.toList, r, by simpa using hz, o, kin b o hk, hc, n, by simpa using hs⟩
  · obtain ⟨z, its, n, r, e⟩ := rd q fun ps z => by cases z
    exact ⟨false, its, r, by rw [← r.length]; exact z, _, n, e, rfl, rfl, rfl⟩
  · exact ⟨false, its.toList, r, by simpa using hz, o, n, kin b o hk, hc, hd, by simpa using hs⟩
theorem GenS.of {env : Env} {sc : Scope} {x : Str} (h1 : sc.kind = .function) (h2 : sc.isCoroutine = false) (h3 : ∀ y ∈ sc.names, y.2 ≠ .cell) (h4 : sc.names.lookup (".0" : Str) = some NameKind.local) (h5 : sc.names.lookup x = some .local) (h6 : ∀ y ∈ sc.names, y.2 ≠ .free) :
    GenS env sc x := ⟨h1, h2, h3, h4, h5, fun y hy e => absurd e (h6 y hy)⟩
theorem PrS.snoc {K : PySem.W.Frag} {H : Hp} {L : List (Nat × Nat)} {xs : List V} {p : Nat × Nat} {b : Addr} (h : PrS K H L xs) (e : SqT K H b [.int (p.1 : Nat), .int (p.2 : Nat)]) : PrS K H (L ++ [p]) (xs ++ [.ref b]) := Paired.app h (.cons ⟨b, rfl, e⟩ .nil)
theorem q_ifOrF {t u : TT} {tu tw tz : TS} {D : Ends} {σ : L2.St} {H : Hp} (h1 : EvT t σ H false) (h2 : ∀ H1, Ex H H1 → u σ H1 fun b H2 => if b = true then tu { D with nx := tz D } σ H2 else tw { D with nx := tz D } σ H2) :
    tSeq (tIfS (tOr t u) tu tw) tz D σ H := h1 H (Ex.refl H) _ fun H1 e => by
  rw [if_neg (by decide)]
  exact h2 H1 e
end Pu
namespace Pu
open PySem PySem.Spec PyProof.Rows L2 GxR Evl
theorem rc_abs {i : Int} {H : Hp} : RC (fun xs H Q => ∃ i, xs = [V.int i] ∧ Q (.int (if i < 0 then -i else i)) H) [.int i] H (.int (if i < 0 then -i else i)) := fun H1 _ Q q => ⟨i, rfl, q H1 (Ex.refl H1)⟩
theorem rc_int {i : Int} {H : Hp} : RC (fun xs H Q => (∃ i, xs = [V.int i] ∧ Q (.int i) H) ∨ ∃ k, xs = [.bl k] ∧ Q (.int (if k then 1 else 0)) H) [.int i] H (.int i) := fun H1 _ Q q => .inl ⟨i, rfl, q H1 (Ex.refl H1)⟩
theorem rc_lenL {K : PySem.W.Frag} {H : Hp} {a : Addr} {xs : List V} (h : SqL K H a xs) : RC (fun ys H Q => ∃ x n, ys = [x] ∧ LenV K x H n ∧ Q (.int n) H) [.ref a] H (.int (xs.length : Int)) := fun H1 e Q q => ⟨_, _, rfl, .inl ⟨xs, ex_l e h, rfl⟩, q H1 (Ex.refl H1)⟩
def BoxAt (H : Hp) (p : Addr) : Prop := ∃ g s : Int, H p = some (.lst [.int g, .int s]) ∧ 0 ≤ g ∧ 0 ≤ s
theorem BoxAt.ex {H H' : Hp} {p : Addr} (h : BoxAt H p) (e : Ex H H') : BoxAt H' p := by
  obtain ⟨g, s, h1, h2⟩ := h
  exact ⟨g, s, e _ _ h1, h2⟩
def ExB (p : Addr) (H H' : Hp) : Prop := BoxAt H' p ∧ ∀ b o, b ≠ p → H b = some o → H' b = some o
def spBox (K : PySem.W.Frag) (ns : List Int) : Sp := fun vs H Q _ => ∃ (a : Addr) (k : Nat), vs = [.ref a, .int k] ∧ SqL K H a (ns.map V.int) ∧ ns.length ≤ 100 ∧ k ≤ 1000 ∧ ∀ p H', H p = none → Ex H H' → BoxAt H' p → Q (.ref p) H'
def spTake : Sp := fun vs H Q _ => ∃ (p : Addr) (m : Nat), vs = [.ref p, .int m] ∧ 1 ≤ m ∧ m ≤ 100000 ∧ BoxAt H p ∧ ∀ (d : Nat) H', d < m → ExB p H H' → Q (.int d) H'
def spPick : Sp := fun vs H Q _ => ∃ (p q : Addr) (ys : List V), vs = [.ref p, .ref q] ∧ BoxAt H p ∧ H q = some (.lst ys) ∧ q ≠ p ∧ 1 ≤ ys.length ∧ ys.length ≤ 1000 ∧ ∀ v H', v ∈ ys → ExB p H H' → Q v H'
theorem ExB.of {p : Addr} {H H2 H4 : Hp} {g s : Int} (e : Ex H H2) (e4 : Ex (upd H2 p (.lst [.int g, .int s])) H4) (hg : 0 ≤ g) (hs : 0 ≤ s) : ExB p H H4 :=
  ⟨⟨g, s, e4 _ _ upd_same, hg, hs⟩, fun b o hb h => e4 _ _ (by rw [upd_ne hb]; exact e _ _ h)⟩
theorem mod_nat (g : Int) {m : Nat} (h : 1 ≤ m) : ∃ d : Nat, g % (m : Int) = d ∧ d < m := by
  have h0 : 0 ≤ g % (m : Int) := Int.emod_nonneg _ (by omega)
  have h1 : g % (m : Int) < m := Int.emod_lt_of_pos _ (by omega)
  exact ⟨(g % (m : Int)).toNat, by omega, by omega⟩
theorem q_ifSet {t t' : TT} {te te' : TE} {tz : TS} {D : Ends} {σ : L2.St} {H : Hp} {b b' : Bool} {i : Nat} {c0 : Int} (Pc : Int → Prop) (h : EvT t σ H b) (h1 : b = true → ∃ c, Pc c ∧ Ev te σ H (.int c)) (h' : b = false → EvT t' σ H b') (h2 : b = false → b' = true → ∃ c, Pc c ∧ Ev te' σ H (.int c)) (h3 : Pc c0 ∧ σ.set i (some (.int c0)) = σ)
    (k : ∀ c H1, Pc c → Ex H H1 → tz D (σ.set i (some (.int c))) H1) : tSeq (tIfS t (tAsg te (gName i)) (tIfS t' (tAsg te' (gName i)) tNext)) tz D σ H := by
  refine s_if (D := { D with nx := tz D }) h (fun z H1 e1 => ?_) (fun z H1 e1 => ?_)
  · obtain ⟨c, hc, v⟩ := h1 z
    exact v H1 e1 _ fun H2 e2 => k c H2 hc (e1.trans e2)
  · refine h' z H1 e1 _ fun H2 e2 => ?_
    refine ite2 (fun y => ?_) fun _ => ?_
    · obtain ⟨c, hc, v⟩ := h2 z y
      exact v H2 (e1.trans e2) _ fun H3 e3 => k c H3 hc ((e1.trans e2).trans e3)
    · have q := k c0 H2 h3.1 (e1.trans e2)
      rw [h3.2] at q
      exact q
theorem lt_log {m : Nat} (h : m ≤ 100000) : (m : Int).natAbs.log2 < 9000 := by
  have z : m < 2 ^ 20 := Nat.lt_of_le_of_lt h (by decide)
  have y := PySem.Flt.log2_lt_of (by decide) (show (m : Int).natAbs < 2 ^ 20 by rw [Int.natAbs_natCast]; exact z)
  omega
theorem ev_int1 {ta : TE} {σ : L2.St} {H : Hp} {i : Int} (h : Ev ta σ H (.int i)) : Ev (tCB (fun xs H Q => (∃ i, xs = [V.int i] ∧ Q (.int i) H) ∨ ∃ k, xs = [.bl k] ∧ Q (.int (if k then 1 else 0)) H) (tCons ta tNil)) σ H (.int i) := ev_cb (Evl.ea_cons h Evl.ea_nil) rc_int
theorem ev_lenL {K : PySem.W.Frag} {ta : TE} {σ : L2.St} {H : Hp} {a : Addr} {xs : List V} (h : Ev ta σ H (.ref a)) (q : SqL K H a xs) : Ev (tCB (fun ys H Q => ∃ x n, ys = [x] ∧ LenV K x H n ∧ Q (.int n) H) (tCons ta tNil)) σ H (.int (xs.length : Int)) := ev_cb (Evl.ea_cons h Evl.ea_nil) (rc_lenL q)
end Pu
namespace Pu
open PySem PySem.Spec PyProof.Rows L2 GxR Evl
/-- list(x) -/
def rListOf (K : PySem.W.Frag) (xs : List V) (H : Hp) (Q : VK) : Prop := ∃ p ys, xs = [.ref p] ∧ (SqL K H p ys ∨ SqT K H p ys) ∧ ∀ l, H l = none → Q (.ref l) (upd H l (.lst ys))
/-- a statement told by what holds ahead of it and behind it -/
def Tr (X : Cx) (st : Stmt) (A B : L2.St → Hp → Prop) : Prop := ∃ t, PS X st t ∧ ∀ D σ H, A σ H → (∀ σ' H', B σ' H' → D.nx σ' H') → t D σ H
def Trs (X : Cx) (l : List Stmt) (A B : L2.St → Hp → Prop) : Prop := ∃ t, PSs X l t ∧ ∀ D σ H, A σ H → (∀ σ' H', B σ' H' → D.nx σ' H') → t D σ H
theorem Trs.cons {X : Cx} {st : Stmt} {l : List Stmt} {A B C : L2.St → Hp → Prop} (h : Tr X st A B) (k : Trs X l B C) : Trs X (st :: l) A C := by
  obtain ⟨t, h1, h2⟩ := h
  obtain ⟨u, k1, k2⟩ := k
  exact ⟨_, pss_cons h1 k1, fun D σ H a q => h2 { D with nx := u D } σ H a fun σ' H' b => k2 D σ' H' b q⟩
theorem Trs.one {X : Cx} {st : Stmt} {A B : L2.St → Hp → Prop} (h : Tr X st A B) : Trs X [st] A B := by
  obtain ⟨t, h1, h2⟩ := h
  exact ⟨_, pss_one h1, h2⟩
theorem Trs.pre {X : Cx} {l : List Stmt} {A A' B : L2.St → Hp → Prop} (h : Trs X l A B) (e : ∀ σ H, A' σ H → A σ H) : Trs X l A' B := by
  obtain ⟨t, h1, h2⟩ := h
  exact ⟨t, h1, fun D σ H a q => h2 D σ H (e σ H a) q⟩
/-- slots -/
theorem sl_ne {σ : L2.St} {i j : Nat} {v : Option V} {x : V} (h : σ[j]? = some (some x)) (n : i ≠ j) : (σ.set i v)[j]? = some (some x) := by rw [List.getElem?_set_ne n]; exact h
theorem sl_eq {σ : L2.St} {i : Nat} {v : V} (h : i < σ.length) : (σ.set i (some v))[i]? = some (some v) := List.getElem?_set_self h
/-- the arguments by their names, put in the told order -/
def perm {α : Type} (is : List Nat) (l : List α) : List α := if l.length = is.length then is.filterMap (fun i => l[i]?) else []
theorem filt_rel {zs : List V} {ws : List Value} (h : Vals zs ws) : ∀ is : List Nat, Vals (is.filterMap fun i => zs[i]?) (is.filterMap fun i => ws[i]?)
  | [] => .nil
  | i :: is => by
    rw [List.filterMap_cons, List.filterMap_cons]
    cases e : zs[i]? with
    | none =>
      have e2 : ws[i]? = none := by
        rw [List.getElem?_eq_none_iff] at e ⊢
        rw [← h.length]
        exact e
      rw [e2]
      exact filt_rel h is
    | some z =>
      obtain ⟨u, hu, r⟩ := h.get e
      rw [hu]
      exact .cons r (filt_rel h is)
theorem perm_rel {is : List Nat} {zs : List V} {ws : List Value} (h : Vals zs ws) : Vals (perm is zs) (perm is ws) := by
  unfold perm
  rw [h.length]
  split
  · exact filt_rel h is
  · exact .nil
theorem kwOk {K : PySem.W.Frag} {fd : FuncData} {ps ks : List Str} {is : List Nat} (h : ∀ ws : List Value, ws.length = is.length → bindArgs fd ⟨[], ks.zip ws⟩ = pure (ps.zip (perm is ws))) (hn : 0 < ps.length) : KwOk K fd ps ks (perm is) (perm is) := by
  refine ⟨fun s ws _ hl => ?_, perm_rel⟩
  refine .of_eq (h ws ?_)
  unfold perm at hl
  split at hl
  · assumption
  · rw [List.length_nil] at hl
    omega
/-- the script stays what it is as long as only p and T change -/
def Scr (K : PySem.W.Frag) (T p a : Addr) (ns : List Int) (H : Hp) : Prop := ∀ H', (∀ b o, b ≠ p → b ≠ T → H b = some o → H' b = some o) → SqL K H' a (ns.map V.int)
structure Hs (K : PySem.W.Frag) (T a : Addr) (ns : List Int) (p : Addr) (H : Hp) : Prop where
  tab : TabG H T
  box : BoxAt H p
  scr : Scr K T p a ns H
/-- a step that changes but the box and the table -/
structure Stp (T p : Addr) (H H' : Hp) : Prop where
  tab : TabG H' T
  box : BoxAt H' p
  kp : ∀ b o, b ≠ p → b ≠ T → H b = some o → H' b = some o
variable {K : PySem.W.Frag} {T a p : Addr} {ns : List Int} {H H' H2 : Hp}
theorem BoxAt.ne (h : BoxAt H p) (t : TabG H T) : p ≠ T := by
  obtain ⟨g, s, h1, _⟩ := h
  exact TabG.ne t h1 fun ps z => by cases z
theorem Hs.ex (h : Hs K T a ns p H) (e : Ex H H') : Stp T p H H' := ⟨TabG.ex h.tab e, h.box.ex e, fun b o _ _ q => e b o q⟩
theorem Hs.exT (h : Hs K T a ns p H) (e : ExT T H H') : Stp T p H H' := by
  refine ⟨e.1, ?_, fun b o _ n q => e.2 b o n q⟩
  obtain ⟨g, s, h1, h2⟩ := h.box
  exact ⟨g, s, e.2 _ _ (h.box.ne h.tab) h1, h2⟩
theorem Hs.exB (h : Hs K T a ns p H) (e : ExB p H H') : Stp T p H H' := by
  refine ⟨?_, e.1, fun b o n _ q => e.2 b o n q⟩
  obtain ⟨ps, h1, h2⟩ := h.tab
  exact ⟨ps, e.2 _ _ (fun z => h.box.ne h.tab z.symm) h1, h2⟩
theorem Hs.step (h : Hs K T a ns p H) (s : Stp T p H H') : Hs K T a ns p H' := ⟨s.tab, s.box, fun H'' q => h.scr H'' fun b o n m e => q b o n m (s.kp b o n m e)⟩
theorem Stp.trans (s : Stp T p H H') (u : Stp T p H' H2) : Stp T p H H2 := ⟨u.tab, u.box, fun b o n m e => u.kp b o n m (s.kp b o n m e)⟩
theorem Hs.scrL (h : Hs K T a ns p H) : SqL K H a (ns.map V.int) := h.scr H fun _ _ _ _ e => e
theorem Hs.ofNew (t : TabG H T) (s : SqL K H a (ns.map V.int)) (n : H p = none) (e : Ex H H') (b : BoxAt H' p) : Hs K T a ns p H' := by
  refine ⟨TabG.ex t e, b, fun H'' q => ?_⟩
  refine s.imp (fun s => ?_) id
  rcases s with s | ⟨o, s⟩
  · exact .inl (q _ _ (fun z => by rw [z, n] at s; cases s) (TabG.ne t s fun ps z => by cases z) (e _ _ s))
  · exact .inr ⟨o, q _ _ (fun z => by rw [z, n] at s; cases s) (TabG.ne t s fun ps z => by cases z) (e _ _ s)⟩
theorem Hs.renew {p' : Addr} (h : Hs K T a ns p H) (n : H p' = none) (e : Ex H H') (b : BoxAt H' p') : Hs K T a ns p' H' := Hs.ofNew h.tab h.scrL n e b
theorem Stp.tup (h : Hs K T a ns p H) (s : Stp T p H H') {b : Addr} {xs : List V} (e : H b = some (.tup xs)) : H' b = some (.tup xs) := by
  obtain ⟨g, s', h1, _⟩ := h.box
  exact s.kp _ _ (fun z => by rw [z, h1] at e; cases e) (TabG.ne h.tab e fun ps z => by cases z) e
theorem Stp.prT (h : Hs K T a ns p H) (s : Stp T p H H') {L : List (Nat × Nat)} {xs : List V} (q : PrT H L xs) : PrT H' L xs := Paired.mapP q fun _ _ ⟨b, h1, h2⟩ => ⟨b, h1, s.tup h h2⟩
theorem Stp.lst (h : Hs K T a ns p H) (s : Stp T p H H') {b : Addr} {xs : List V} (n : b ≠ p) (e : H b = some (.lst xs)) : H' b = some (.lst xs) := s.kp _ _ n (TabG.ne h.tab e fun ps z => by cases z) e
theorem Hs.fresh (h : Hs K T a ns p H) (s : Stp T p H H') {b : Addr} (e : H' b = none) : H b = none := by
  cases z : H b with
  | none => rfl
  | some o =>
    obtain ⟨g, s', h1, _⟩ := s.box
    obtain ⟨ps, h2, _⟩ := s.tab
    by_cases q : b = p
    · rw [q, h1] at e; cases e
    · by_cases r : b = T
      · rw [r, h2] at e; cases e
      · rw [s.kp b o q r z] at e; cases e
end Pu
namespace Pu
open PySem PySem.Spec PyProof.Rows L2 GxR Evl
/-- data that is small enough to be shown -/
structure Sm (n m : Nat) (d : PyData) : Prop where
  dp : PyData.depth d ≤ n
  bk : PyData.bulk d ≤ m
  lf : PyData.leavesShort 13 d = true
  sh : PyData.showable d = true
  nd : PyData.hasDict d = false
theorem Sm.none : Sm 0 0 .none := ⟨Nat.le_refl _, Nat.le_refl _, rfl, rfl, rfl⟩
theorem Sm.int {i : Nat} (h : i ≤ 1000000) : Sm 0 0 (.int (i : Int)) := by
  refine ⟨Nat.le_refl _, Nat.le_refl _, ?_, ?_, rfl⟩
  · show decide _ = true
    exact decide_eq_true (PyData.shown_int_le (by rw [Int.natAbs_natCast]; exact Nat.lt_of_le_of_lt h (by decide)))
  · show decide _ = true
    refine decide_eq_true ?_
    rw [Int.natAbs_natCast]
    exact Nat.lt_of_lt_of_le (PySem.Flt.log2_lt_of (by decide) (Nat.lt_of_le_of_lt h (by decide : 1000000 < 2 ^ 20))) (by decide)
theorem Sm.mono {n m n' m' : Nat} {d : PyData} (s : Sm n m d) (h : n ≤ n') (k : m ≤ m') : Sm n' m' d := ⟨Nat.le_trans s.dp h, Nat.le_trans s.bk k, s.lf, s.sh, s.nd⟩
theorem sm_all {n m : Nat} : ∀ {ds : List PyData}, (∀ d ∈ ds, Sm n m d) → PyData.depthAll ds ≤ n ∧ PyData.bulkAll ds ≤ ds.length * (m + 1) ∧ PyData.leavesShortAll 13 ds = true ∧ PyData.showableAll ds = true ∧ PyData.hasDictAll ds = false
  | [], _ => ⟨Nat.zero_le _, Nat.zero_le _, rfl, rfl, rfl⟩
  | d :: ds, h => by
    obtain ⟨h1, h2, h3, h4, h5⟩ := sm_all (ds := ds) fun x hx => h x (List.mem_cons_of_mem _ hx)
    have s := h d (List.mem_cons_self ..)
    refine ⟨?_, ?_, ?_, ?_, ?_⟩
    · show max (PyData.depth d) (PyData.depthAll ds) ≤ n
      exact Nat.max_le.mpr ⟨s.dp, h1⟩
    · show PyData.bulk d + 1 + PyData.bulkAll ds ≤ (ds.length + 1) * (m + 1)
      have := s.bk
      rw [Nat.add_mul]
      omega
    · show (PyData.leavesShort 13 d && PyData.leavesShortAll 13 ds) = true
      rw [s.lf, h3]
      rfl
    · show (PyData.showable d && PyData.showableAll ds) = true
      rw [s.sh, h4]
      rfl
    · show (PyData.hasDict d || PyData.hasDictAll ds) = false
      rw [s.nd, h5]
      rfl
theorem Sm.tup {n m c : Nat} {ds : List PyData} (h : ∀ d ∈ ds, Sm n m d) (hc : ds.length ≤ c) : Sm (n + 1) (c * (m + 1)) (.tuple ds) := by
  obtain ⟨h1, h2, h3, h4, h5⟩ := sm_all h
  exact ⟨Nat.succ_le_succ h1, Nat.le_trans h2 (Nat.mul_le_mul_right _ hc), h3, h4, h5⟩
theorem Sm.lst {n m c : Nat} {ds : List PyData} (h : ∀ d ∈ ds, Sm n m d) (hc : ds.length ≤ c) : Sm (n + 1) (c * (m + 1)) (.list ds) := by
  obtain ⟨h1, h2, h3, h4, h5⟩ := sm_all h
  exact ⟨Nat.succ_le_succ h1, Nat.le_trans h2 (Nat.mul_le_mul_right _ hc), h3, h4, h5⟩
theorem Sm.pair {p : Nat × Nat} (h : p.1 + p.2 ≤ 1000000) : Sm 1 2 (dPair p) := by
  refine Sm.tup (c := 2) (m := 0) (fun d hd => ?_) (Nat.le_refl _)
  rcases List.mem_cons.mp hd with z | hd
  · rw [z]; exact Sm.int (by omega)
  · rcases List.mem_cons.mp hd with z | hd
    · rw [z]; exact Sm.int (by omega)
    · cases hd
theorem Sm.shape {L : List (Nat × Nat)} (hl : L.length ≤ 1000) (h : ∀ p ∈ L, p.1 + p.2 ≤ 1000000) : Sm 2 3000 (dShape L) := by
  refine Sm.tup (c := 1000) (m := 2) (fun d hd => ?_) (by rw [List.length_map]; exact hl)
  obtain ⟨p, hp, rfl⟩ := List.mem_map.mp hd
  exact Sm.pair (h p hp)
theorem Sm.two {n m : Nat} {d e : PyData} (h : Sm n m d) (k : Sm n m e) : Sm (n + 1) (2 * (m + 1)) (.list [d, e]) := Sm.lst (fun x hx => by
  rcases List.mem_cons.mp hx with z | hx
  · rw [z]; exact h
  · rcases List.mem_cons.mp hx with z | hx
    · rw [z]; exact k
    · cases hx) (Nat.le_refl 2)
theorem Sm.d60 {n m : Nat} {d : PyData} (s : Sm n m d) (hn : n ≤ 60) : PyData.depth d ≤ 60 := Nat.le_trans s.dp hn
theorem Sm.len {n m : Nat} {d : PyData} (s : Sm n m d) (hm : m ≤ 1000000) : d.shown.length ≤ sizeLine := PyData.shown_fits_bulk (B := 13) (by decide) (by decide) s.lf (Nat.le_trans s.bk (Nat.le_trans hm (by decide)))
/-- repr of a list or a tuple that is small: a text -/
theorem rc_repr {K : PySem.W.Frag} {H : Hp} {v : V} {d : PyData} {n m : Nat} (h : Dp K H v d) (hd : isDisplay d = true) (s : Sm n m d) (hn : n ≤ 60) (hm : m ≤ 1000000) {Q : VK} (q : Q (.str d.shown) H) : rRepr K [v] H Q :=
  ⟨v, d, rfl, h, hd, s.sh, s.nd, Nat.le_trans s.dp hn, PyData.shown_fits_bulk (B := 13) (by decide) (by decide) s.lf (Nat.le_trans s.bk (Nat.le_trans hm (by decide))), q⟩
end Pu
set_option Elab.async false
set_option linter.all false
set_option maxRecDepth 100000
set_option maxHeartbeats 4000000
namespace K11
open PySem PySem.Spec PyProof.Rows L2 GxR Pu
def topS (i : Nat) : Stmt := PySem.Challenge.pw_farstory_k11_whole_bounds_that_are_met.main.body.getD i (.Pass ⟨0, 0, 0, 0⟩)
abbrev sIsInteger : Stmt := topS 4
abbrev sIsNumber : Stmt := topS 5
abbrev sIsSequence : Stmt := topS 6
abbrev sIsOfParts : Stmt := topS 7
abbrev sNeedNumber : Stmt := topS 8
abbrev sIsKeep : Stmt := topS 10
abbrev sNeedKeep : Stmt := topS 11
abbrev sCountsOf : Stmt := topS 12
abbrev sShapeFrom : Stmt := topS 13
abbrev sNeedRows : Stmt := topS 14
abbrev sShape : Stmt := topS 15
abbrev sIsStretch : Stmt := topS 16
abbrev sIsShape : Stmt := topS 17
abbrev sFirstOf : Stmt := topS 18
abbrev sLayShape : Stmt := topS 19
abbrev sLetGo : Stmt := topS 20
abbrev sMostMany : Stmt := topS 21
abbrev sMostSpans : Stmt := topS 22
abbrev sBox : Stmt := topS 24
abbrev sTake : Stmt := topS 25
abbrev sPick : Stmt := topS 26
abbrev sLRefused : Stmt := topS 27
abbrev sLCross : Stmt := topS 28
abbrev sLaw : Stmt := topS 29
theorem scIsInteger : FnScope ["value"] ["value"] (defScope sIsInteger) := ⟨rfl, rfl, rfl, by decide +kernel, rfl, by decide +kernel, by decide +kernel⟩
theorem scIsNumber : FnScope ["value"] ["value"] (defScope sIsNumber) := ⟨rfl, rfl, rfl, by decide +kernel, rfl, by decide +kernel, by decide +kernel⟩
theorem scIsSequence : FnScope ["value"] ["value"] (defScope sIsSequence) := ⟨rfl, rfl, rfl, by decide +kernel, rfl, by decide +kernel, by decide +kernel⟩
theorem scIsOfParts : FnScope ["value", "many"] ["value", "many"] (defScope sIsOfParts) := ⟨rfl, rfl, rfl, by decide +kernel, rfl, by decide +kernel, by decide +kernel⟩
theorem scIsStretch : FnScope ["value"] ["value"] (defScope sIsStretch) := ⟨rfl, rfl, rfl, by decide +kernel, rfl, by decide +kernel, by decide +kernel⟩

/-- the names of the module that the defs read -/
structure Mg (mg : Str → Option Value) : Prop where
  isinstance : mg "isinstance" = none
  int : mg "int" = none
  bool : mg "bool" = none
  list : mg "list" = none
  tuple : mg "tuple" = none
  len : mg "len" = none
  range : mg "range" = none
  enumerate : mg "enumerate" = none
  reversed : mg "reversed" = none
  all : mg "all" = none
  abs : mg "abs" = none
  max : mg "max" = none
  min : mg "min" = none
  set : mg "set" = none
  repr : mg "repr" = none
  sorted : mg "sorted" = none

def isNum : V → Bool
  | .int i => decide (i ≥ 0)
  | _ => false
def isSeq : String → Bool := fun t => t == "tuple" || t == "list"
def pInteger : List V → Heap → V → Prop := fun vs g v => ∃ x t, vs = [x] ∧ TyG g x t ∧ v = .bl (t == "int")
def pNumber : List V → Heap → V → Prop := fun vs g v => ∃ x t, vs = [x] ∧ TyG g x t ∧ v = .bl (isNum x)
def pSequence : List V → Heap → V → Prop := fun vs g v => ∃ x t, vs = [x] ∧ TyG g x t ∧ v = .bl (isSeq t)
/-- the value's parts, if it has some -/
inductive PartsG (g : Heap) : V → Option Nat → Prop
  | seq {b : Bool} {a : Addr} {its : List Value} (h : SeqG g b a its) : PartsG g (.ref a) (some its.length)
  | no {x : V} {t : String} (h : TyG g x t) (n : isSeq t = false) : PartsG g x none
def pOfParts : List V → Heap → V → Prop := fun vs g v => ∃ (x : V) (n : Option Nat) (m : Int), vs = [x, .int m] ∧ PartsG g x n ∧ v = .bl (match n with | some k => decide ((k : Int) = m) | none => false)
/-- what is_stretch finds -/
inductive StG (g : Heap) : V → Bool → Prop
  | two {b : Bool} {a : Addr} {u0 u1 : Value} {x y : V} {t s : String} (h : SeqG g b a [u0, u1]) (r : RelV x u0) (r' : RelV y u1) (tx : TyG g x t) (ty : TyG g y s) : StG g (.ref a) (isNum x && isNum y)
  | len {b : Bool} {a : Addr} {its : List Value} (h : SeqG g b a its) (n : its.length ≠ 2) : StG g (.ref a) false
  | no {x : V} {t : String} (h : TyG g x t) (n : isSeq t = false) : StG g x false
def pStretch : List V → Heap → V → Prop := fun vs g v => ∃ x b, vs = [x] ∧ StG g x b ∧ v = .bl b
theorem StG.mono {g h : Heap} {x : V} {b : Bool} (y : StG g x b) (e : Ext g h) : StG h x b := by
  cases y with
  | two q r r' a b => exact .two (q.mono e) r r' (a.mono e) (b.mono e)
  | len q n => exact .len (q.mono e) n
  | no q n => exact .no (q.mono e) n
theorem PartsG.mono {g h : Heap} {x : V} {n : Option Nat} (y : PartsG g x n) (e : Ext g h) : PartsG h x n := by
  cases y with
  | seq q => exact .seq (q.mono e)
  | no q n => exact .no (q.mono e) n

section
variable {P : Program} {w : World} {K : PySem.W.Frag} {mg : Str → Option Value} {base : Heap}
theorem kitsI {g : Heap} {x : V} {t : String} (y : TyG g x t) : ∃ b1 b2, kitB t "int" = some b1 ∧ kitB t "bool" = some b2 ∧ (b1 && !b2) = (t == "int") := by
  cases y with
  | non => exact ⟨false, false, by decide +kernel, by decide +kernel, by decide⟩
  | bl b => exact ⟨true, true, by decide +kernel, by decide +kernel, by decide⟩
  | int i => exact ⟨true, false, by decide +kernel, by decide +kernel, by decide⟩
  | str x => exact ⟨false, false, by decide +kernel, by decide +kernel, by decide⟩
  | tup q => exact ⟨false, false, by decide +kernel, by decide +kernel, by decide⟩
  | lst q => exact ⟨false, false, by decide +kernel, by decide +kernel, by decide⟩
theorem kitsS {g : Heap} {x : V} {t : String} (y : TyG g x t) : PySem.W.kitAny K (.type t) (["list", "tuple"].map Value.type) = some (isSeq t) := by
  have two : ∀ b1 b2, kitB t "list" = some b1 → kitB t "tuple" = some b2 → PySem.W.kitAny K (.type t) (["list", "tuple"].map Value.type) = some (b1 || b2) := fun b1 b2 h1 h2 =>
    kitAny_cons (kit_ty h1) (fun e => kitAny_cons (kit_ty h2) (fun e2 => by rw [e, e2]; exact kitAny_nil) (fun e2 => by rw [e2]; simp)) (fun e => by rw [e]; rfl)
  cases y with
  | non => exact two false false (by decide +kernel) (by decide +kernel)
  | bl b => exact two false false (by decide +kernel) (by decide +kernel)
  | int i => exact two false false (by decide +kernel) (by decide +kernel)
  | str x => exact two false false (by decide +kernel) (by decide +kernel)
  | tup q => exact two false true (by decide +kernel) (by decide +kernel)
  | lst q => exact two true false (by decide +kernel) (by decide +kernel)

theorem pf_is_integer {f : Addr} {fd : FuncData} (M : L2.Mod K mg base) (G : Mg mg) (F : Fun K "is_integer" "is_integer" sIsInteger f fd) : PF P w K mg base 1 f fd ["value"] pInteger := by
  refine pf_ret M F scIsInteger rfl (by decide +kernel) (fun cdv A L g us vs v hr hx r hl h hn => ?_) fun vs g h v e q => ?_
  · obtain ⟨x, t, rfl, ty, rfl⟩ := h
    obtain ⟨u, rfl, ru⟩ := vals1 r
    obtain ⟨m, ns, hm⟩ := hn 0 "value" u rfl rfl
    have FR : FrP K mg base A (envOfC "is_integer" (defScope sIsInteger) L f cdv) g := ⟨M, hx, rfl, rfl, rfl, hr.hd⟩
    have val : ∀ {pos : Pos}, EV P w A (envOfC "is_integer" (defScope sIsInteger) L f cdv) g (.Name "value" pos) x := ev_loc FR rfl ns hm ru
    obtain ⟨b1, b2, h1, h2, e⟩ := kitsI ty
    rw [← e]
    exact ev_and (ev_isi FR rfl G.isinstance val ty rfl G.int (by decide +kernel) h1) fun _ => ev_one (ev_not (ev_isi FR rfl G.isinstance val ty rfl G.bool (by decide +kernel) h2))
  · obtain ⟨x, t, h1, h2, h3⟩ := q
    exact ⟨x, t, h1, h2.mono e, h3⟩
theorem pf_is_number {f f1 : Addr} {fd fd1 : FuncData} (M : L2.Mod K mg base) (G : Mg mg) (F : Fun K "is_number" "is_number" sIsNumber f fd) (F1 : Fun K "is_integer" "is_integer" sIsInteger f1 fd1) (b1 : Binds K fd1 ["value"] []) (m1 : mg "is_integer" = some (.ref f1)) :
    PF P w K mg base 2 f fd ["value"] pNumber := by
  have G1 : PF P w K mg base 1 f1 fd1 ["value"] pInteger := pf_is_integer M G F1
  refine pf_ret M F scIsNumber rfl (by decide +kernel) (fun cdv A L g us vs v hr hx r hl h hn => ?_) fun vs g h v e q => ?_
  · obtain ⟨x, t, rfl, ty, rfl⟩ := h
    obtain ⟨u, rfl, ru⟩ := vals1 r
    obtain ⟨m, ns, hm⟩ := hn 0 "value" u rfl rfl
    have FR : FrP K mg base A (envOfC "is_number" (defScope sIsNumber) L f cdv) g := ⟨M, hx, rfl, rfl, rfl, hr.hd⟩
    have val : ∀ {pos : Pos}, EV P w A (envOfC "is_number" (defScope sIsNumber) L f cdv) g (.Name "value" pos) x := ev_loc FR rfl ns hm ru
    have one : ∀ {p q pos : Pos}, EV P w A (envOfC "is_number" (defScope sIsNumber) L f cdv) g (.Call (.Name "is_integer" p) [.Name "value" q] [] pos) (.bl (t == "int")) := fun {p q pos} =>
      ev_pf FR G1 hr rfl m1 F1.kp b1 (ea_cons val ea_nil) rfl fun h e => ⟨x, t, rfl, ty.mono e, rfl⟩
    cases ty with
    | int i => exact ev_and (x := true) (y := decide (i ≥ 0)) one fun _ => ev_one (ev_ge val ev_int)
    | non => exact ev_and (x := false) (y := false) one fun h => nomatch h
    | bl b => exact ev_and (x := false) (y := false) one fun h => nomatch h
    | str s => exact ev_and (x := false) (y := false) one fun h => nomatch h
    | tup s => exact ev_and (x := false) (y := false) one fun h => nomatch h
    | lst s => exact ev_and (x := false) (y := false) one fun h => nomatch h
  · obtain ⟨x, t, h1, h2, h3⟩ := q
    exact ⟨x, t, h1, h2.mono e, h3⟩
theorem pf_is_sequence {f : Addr} {fd : FuncData} (M : L2.Mod K mg base) (G : Mg mg) (F : Fun K "is_sequence" "is_sequence" sIsSequence f fd) : PF P w K mg base 1 f fd ["value"] pSequence := by
  refine pf_ret M F scIsSequence rfl (by decide +kernel) (fun cdv A L g us vs v hr hx r hl h hn => ?_) fun vs g h v e q => ?_
  · obtain ⟨x, t, rfl, ty, rfl⟩ := h
    obtain ⟨u, rfl, ru⟩ := vals1 r
    obtain ⟨m, ns, hm⟩ := hn 0 "value" u rfl rfl
    have FR : FrP K mg base A (envOfC "is_sequence" (defScope sIsSequence) L f cdv) g := ⟨M, hx, rfl, rfl, rfl, hr.hd⟩
    exact ev_isiT (Ts := ["list", "tuple"]) FR rfl G.isinstance (ev_loc FR rfl ns hm ru) ty (ea_cons (ev_blt FR rfl G.list (by decide +kernel) rfl) (ea_cons (ev_blt FR rfl G.tuple (by decide +kernel) rfl) ea_nil)) (kitsS ty) (by decide)
  · obtain ⟨x, t, h1, h2, h3⟩ := q
    exact ⟨x, t, h1, h2.mono e, h3⟩
theorem pf_is_of_parts {f f1 : Addr} {fd fd1 : FuncData} (M : L2.Mod K mg base) (G : Mg mg) (F : Fun K "is_of_parts" "is_of_parts" sIsOfParts f fd) (F1 : Fun K "is_sequence" "is_sequence" sIsSequence f1 fd1) (b1 : Binds K fd1 ["value"] []) (m1 : mg "is_sequence" = some (.ref f1)) :
    PF P w K mg base 2 f fd ["value", "many"] pOfParts := by
  have G1 : PF P w K mg base 1 f1 fd1 ["value"] pSequence := pf_is_sequence M G F1
  refine pf_ret M F scIsOfParts rfl (by decide +kernel) (fun cdv A L g us vs v hr hx r hl h hn => ?_) fun vs g h v e q => ?_
  · obtain ⟨x, n, k, rfl, pt, rfl⟩ := h
    obtain ⟨u, u2, rfl, ru, ru2⟩ := vals2 r
    obtain ⟨m, ns, hm⟩ := hn 0 "value" u rfl rfl
    obtain ⟨m2, ns2, hm2⟩ := hn 1 "many" u2 rfl rfl
    have FR : FrP K mg base A (envOfC "is_of_parts" (defScope sIsOfParts) L f cdv) g := ⟨M, hx, rfl, rfl, rfl, hr.hd⟩
    have val : ∀ {pos : Pos}, EV P w A (envOfC "is_of_parts" (defScope sIsOfParts) L f cdv) g (.Name "value" pos) x := ev_loc FR rfl ns hm ru
    have one : ∀ {t : String} {p q pos : Pos}, TyG g x t → EV P w A (envOfC "is_of_parts" (defScope sIsOfParts) L f cdv) g (.Call (.Name "is_sequence" p) [.Name "value" q] [] pos) (.bl (isSeq t)) := fun {t p q pos} ty =>
      ev_pf FR G1 hr rfl m1 F1.kp b1 (ea_cons val ea_nil) rfl fun h e => ⟨x, t, rfl, ty.mono e, rfl⟩
    cases pt with
    | @seq b a its q =>
      have s1 : isSeq (if b = true then "tuple" else "list") = true := by cases b <;> rfl
      refine ev_and (x := true) (y := decide ((its.length : Int) = k)) ?_ fun _ => ev_one (ev_eqI (ev_len FR rfl G.len val q) (ev_loc FR rfl ns2 hm2 ru2))
      rw [← s1]
      exact one (TyG.seq q)
    | @no _ t ty hno =>
      refine ev_and (x := false) (y := false) ?_ fun h => nomatch h
      rw [← hno]
      exact one ty
  · obtain ⟨x, n, k, h1, h2, h3⟩ := q
    exact ⟨x, n, k, h1, h2.mono e, h3⟩
theorem pf_is_stretch {f f1 f2 : Addr} {fd fd1 fd2 : FuncData} {f3 f4 : Addr} {fd3 fd4 : FuncData} (M : L2.Mod K mg base) (G : Mg mg) (F : Fun K "is_stretch" "is_stretch" sIsStretch f fd)
    (F1 : Fun K "is_of_parts" "is_of_parts" sIsOfParts f1 fd1) (b1 : Binds K fd1 ["value", "many"] []) (m1 : mg "is_of_parts" = some (.ref f1)) (F2 : Fun K "is_number" "is_number" sIsNumber f2 fd2) (b2 : Binds K fd2 ["value"] []) (m2 : mg "is_number" = some (.ref f2))
    (F3 : Fun K "is_sequence" "is_sequence" sIsSequence f3 fd3) (b3 : Binds K fd3 ["value"] []) (m3 : mg "is_sequence" = some (.ref f3)) (F4 : Fun K "is_integer" "is_integer" sIsInteger f4 fd4) (b4 : Binds K fd4 ["value"] []) (m4 : mg "is_integer" = some (.ref f4)) :
    PF P w K mg base 3 f fd ["value"] pStretch := by
  have G1 : PF P w K mg base 2 f1 fd1 ["value", "many"] pOfParts := pf_is_of_parts M G F1 F3 b3 m3
  have G2 : PF P w K mg base 2 f2 fd2 ["value"] pNumber := pf_is_number M G F2 F4 b4 m4
  refine pf_ret M F scIsStretch rfl (by decide +kernel) (fun cdv A L g us vs v hr hx r hl h hn => ?_) fun vs g h v e q => ?_
  · obtain ⟨x, b, rfl, st, rfl⟩ := h
    obtain ⟨u, rfl, ru⟩ := vals1 r
    obtain ⟨m, ns, hm⟩ := hn 0 "value" u rfl rfl
    have FR : FrP K mg base A (envOfC "is_stretch" (defScope sIsStretch) L f cdv) g := ⟨M, hx, rfl, rfl, rfl, hr.hd⟩
    have val : ∀ {pos : Pos}, EV P w A (envOfC "is_stretch" (defScope sIsStretch) L f cdv) g (.Name "value" pos) x := ev_loc FR rfl ns hm ru
    have parts : ∀ {n : Option Nat} {p q pos r : Pos} {k : Nat}, PartsG g x n → EV P w A (envOfC "is_stretch" (defScope sIsStretch) L f cdv) g (.Call (.Name "is_of_parts" p) [.Name "value" q, .Constant (.int 2) k r] [] pos)
        (.bl (match n with | some k => decide ((k : Int) = 2) | none => false)) := fun {n p q pos r k} pt => ev_pf FR G1 hr rfl m1 F1.kp b1 (ea_cons val (ea_cons ev_int ea_nil)) rfl fun h e => ⟨x, n, 2, rfl, pt.mono e, rfl⟩
    cases st with
    | @two b a u0 u1 y z t s q r0 r1 ty tz =>
      exact ev_and (x := true) (y := isNum y && isNum z) (parts (.seq q)) fun _ => ev_and (x := isNum y) (y := isNum z)
        (ev_pf FR G2 hr rfl m2 F2.kp b2 (ea_cons (ev_ix (j := 0) FR val ev_int q rfl r0) ea_nil) rfl fun h e => ⟨y, t, rfl, ty.mono e, rfl⟩)
        fun _ => ev_one (ev_pf FR G2 hr rfl m2 F2.kp b2 (ea_cons (ev_ix (j := 1) FR val ev_int q rfl r1) ea_nil) rfl fun h e => ⟨z, s, rfl, tz.mono e, rfl⟩)
    | @len b a its q n =>
      refine ev_and (x := false) (y := false) ?_ fun h => nomatch h
      have e : (false : Bool) = decide ((its.length : Int) = 2) := (decide_eq_false (by omega)).symm
      rw [e]
      exact parts (.seq q)
    | @no _ t ty n => exact ev_and (x := false) (y := false) (parts (.no ty n)) fun h => nomatch h
  · obtain ⟨x, b, h1, h2, h3⟩ := q
    exact ⟨x, b, h1, h2.mono e, h3⟩
end
end K11
namespace K11
open PySem PySem.Spec PyProof.Rows L2 GxR Pu Evl
theorem scNeedNumber : FnScope ["value"] ["value"] (defScope sNeedNumber) := ⟨rfl, rfl, rfl, by decide +kernel, rfl, by decide +kernel, by decide +kernel⟩
theorem scIsKeep : FnScope ["value"] ["value"] (defScope sIsKeep) := ⟨rfl, rfl, rfl, by decide +kernel, rfl, by decide +kernel, by decide +kernel⟩
theorem scNeedKeep : FnScope ["keep"] ["keep"] (defScope sNeedKeep) := ⟨rfl, rfl, rfl, by decide +kernel, rfl, by decide +kernel, by decide +kernel⟩
theorem scCountsOf : FnScope ["keep", "many", "counts", "left", "here"] ["keep", "many"] (defScope sCountsOf) := ⟨rfl, rfl, rfl, by decide +kernel, rfl, by decide +kernel, by decide +kernel⟩
/-- a promise of a value, of a new tuple -/
def spV (pre : List V → Hp → V → Prop) : Sp := fun vs H Q _ => ∃ v, pre vs H v ∧ ∀ H', Ex H H' → Q v H'
def spT (pre : List V → Hp → List V → Prop) : Sp := fun vs H Q _ => ∃ xs, pre vs H xs ∧ ∀ p H', H p = none → Ex H H' → H' p = some (.tup xs) → Q (.ref p) H'
theorem spV.use {pre : List V → Hp → V → Prop} {vs : List V} {H : Hp} {v : V} (h : ∀ H1, Ex H H1 → pre vs H1 v) : SpV (spV pre) vs H v := fun H1 e Q q E => ⟨v, h H1 e, q⟩
theorem spPure.use {P : Program} {w : World} {base : Heap} {ps : List Str} {sp : List V → Heap → V → Prop} {vs : List V} {H : Hp} {v : V} (hl : vs.length = ps.length) (h : ∀ H1, Ex H H1 → ∀ h, HOk P w H1 h → Ext base h → sp vs h v) :
    SpV (spPure P w base ps sp) vs H v := fun H1 e Q q E => ⟨hl, v, h H1 e, q H1 (Ex.refl H1)⟩
/-- the facts of all defs that others call -/
structure Fns (K : PySem.W.Frag) (mg : Str → Option Value) (x : Str) (ps : List Str) (st : Stmt) (f : Addr) (fd : FuncData) : Prop where
  fn : Fun K x x st f fd
  bd : Binds K fd ps []
  mg : mg x = some (.ref f)
section
variable {P : Program} {w : World} {K : PySem.W.Frag} {mg : Str → Option Value} {base : Heap}
variable {fInt fNum fSeq fPar fNN fIK fNK fCO fSF fNR fSh fSt fIS fFO fLS fLG fSA fFB : Addr} {dInt dNum dSeq dPar dNN dIK dNK dCO dSF dNR dSh dSt dIS dFO dLS dLG dSA dFB : FuncData}
def pNat : List V → Hp → V → Prop := fun vs H v => ∃ i : Int, vs = [.int i] ∧ 0 ≤ i ∧ v = .non
theorem ok_need_number {f : Addr} {fd : FuncData} (M : L2.Mod K mg base) (G : Mg mg) (F : Fun K "need_number" "need_number" sNeedNumber f fd) (F1 : Fns K mg "is_number" ["value"] sIsNumber fNum dNum) (F2 : Fns K mg "is_integer" ["value"] sIsInteger fInt dInt) :
    FnOk P w K mg base CX0 3 f fd ["value"] (spV pNat) := by
  have G1 : FnOk P w K mg base CX0 2 fNum dNum ["value"] (spPure P w base ["value"] pNumber) := (pf_is_number M G F1.fn F2.fn F2.bd F2.mg).ok
  refine F.ok scNeedNumber (fun vs H Q E h => ?_) (fun cdv A outer s H vs Q E hr h => ?_)
  · obtain ⟨v, ⟨i, rfl, _⟩, _⟩ := h
    rfl
  · obtain ⟨v, ⟨i, rfl, hi, rfl⟩, k⟩ := h
    refine ⟨_, pss_one (ps_if (pt_not (pt_val (pe_call G1 hr (by rfl) F1.mg F1.fn.kp F1.bd .nil pass0 (pa_cons (pv 0) pa_nil)))) pss_never pss_nil), ?_⟩
    have e1 : EvT (tNot (tB (tCall (spPure P w base ["value"] pNumber) [] E0 (tCons (tVar 0) tNil)))) (start ["value"] [V.int i]) H (!true) :=
      et_not (et_B (ev_call (ea_cons (ev_var rfl) ea_nil) (spPure.use rfl fun H1 _ h _ _ => ⟨.int i, "int", rfl, .int i, by rw [show isNum (.int i) = decide (i ≥ 0) from rfl, decide_eq_true hi]⟩)))
    exact s_if e1 (fun z => nomatch z) fun _ H1 e => k H1 e
def pKeepB : List V → Hp → V → Prop := fun vs H v => ∃ i : Int, vs = [.int i] ∧ 2 ≤ i ∧ i ≤ 8 ∧ v = .bl true
theorem ok_is_keep {f : Addr} {fd : FuncData} (M : L2.Mod K mg base) (G : Mg mg) (F : Fun K "is_keep" "is_keep" sIsKeep f fd) (F2 : Fns K mg "is_integer" ["value"] sIsInteger fInt dInt) :
    FnOk P w K mg base CX0 2 f fd ["value"] (spV pKeepB) := by
  have G1 : FnOk P w K mg base CX0 1 fInt dInt ["value"] (spPure P w base ["value"] pInteger) := (pf_is_integer M G F2.fn).ok
  refine F.ok scIsKeep (fun vs H Q E h => ?_) (fun cdv A outer s H vs Q E hr h => ?_)
  · obtain ⟨v, ⟨i, rfl, _⟩, _⟩ := h
    rfl
  · obtain ⟨v, ⟨i, rfl, h2, h8, rfl⟩, k⟩ := h
    refine ⟨_, pss_one (ps_ret (pe_and (pe_call G1 hr (by rfl) F2.mg F2.fn.kp F2.bd .nil pass0 (pa_cons (pv 0) pa_nil)) (pe_one (pe_chain op_le op_le pe_int (pv 0) pe_int)))), ?_⟩
    have e1 : Ev (tCall (spPure P w base ["value"] pInteger) [] E0 (tCons (tVar 0) tNil)) (start ["value"] [V.int i]) H (.bl true) :=
      ev_call (ea_cons (ev_var rfl) ea_nil) (spPure.use rfl fun H1 _ h _ _ => ⟨.int i, "int", rfl, .int i, rfl⟩)
    refine e1 H (Ex.refl H) _ fun H2 e2 => ⟨true, rfl, iteT ⟨.int i, rfl, 2, i, rfl, rfl, true, by show V.bl (decide (2 ≤ i)) = _; rw [decide_eq_true h2], iteT ⟨i, 8, rfl, rfl, ?_⟩⟩⟩
    show Q (V.bl (decide (i ≤ 8))) H2
    rw [decide_eq_true h8]
    exact k H2 e2
def pKeep : List V → Hp → V → Prop := fun vs H v => ∃ i : Int, vs = [.int i] ∧ 2 ≤ i ∧ i ≤ 8 ∧ v = .non
theorem ok_need_keep {f : Addr} {fd : FuncData} (M : L2.Mod K mg base) (G : Mg mg) (F : Fun K "need_keep" "need_keep" sNeedKeep f fd) (F1 : Fns K mg "is_keep" ["value"] sIsKeep fIK dIK) (F2 : Fns K mg "is_integer" ["value"] sIsInteger fInt dInt) :
    FnOk P w K mg base CX0 3 f fd ["keep"] (spV pKeep) := by
  have G1 : FnOk P w K mg base CX0 2 fIK dIK ["value"] (spV pKeepB) := ok_is_keep M G F1.fn F2
  refine F.ok scNeedKeep (fun vs H Q E h => ?_) (fun cdv A outer s H vs Q E hr h => ?_)
  · obtain ⟨v, ⟨i, rfl, _⟩, _⟩ := h
    rfl
  · obtain ⟨v, ⟨i, rfl, h2, h8, rfl⟩, k⟩ := h
    refine ⟨_, pss_one (ps_if (pt_not (pt_val (pe_call G1 hr (by rfl) F1.mg F1.fn.kp F1.bd .nil pass0 (pa_cons (pv 0) pa_nil)))) pss_never pss_nil), ?_⟩
    have e1 : EvT (tNot (tB (tCall (spV pKeepB) [] E0 (tCons (tVar 0) tNil)))) (start ["keep"] [V.int i]) H (!true) :=
      et_not (et_B (ev_call (ea_cons (ev_var rfl) ea_nil) (spV.use fun H1 _ => ⟨i, rfl, h2, h8, rfl⟩)))
    exact s_if e1 (fun z => nomatch z) fun _ H1 e => k H1 e
def natsV (cs : List Nat) : List V := cs.map fun c => .int (c : Nat)
def pCounts : List V → Hp → List V → Prop := fun vs H xs => ∃ k m : Nat, vs = [.int k, .int m] ∧ 2 ≤ k ∧ k ≤ 8 ∧ m ≤ 10000 ∧ xs = natsV (Sh.counts k m)
theorem ok_counts_of {f : Addr} {fd : FuncData} (M : L2.Mod K mg base) (G : Mg mg) (F : Fun K "counts_of" "counts_of" sCountsOf f fd) (F0 : Fns K mg "need_keep" ["keep"] sNeedKeep fNK dNK) (F1 : Fns K mg "is_keep" ["value"] sIsKeep fIK dIK) (F2 : Fns K mg "is_integer" ["value"] sIsInteger fInt dInt) :
    FnOk P w K mg base CX0 4 f fd ["keep", "many"] (spT pCounts) := by
  have G0 : FnOk P w K mg base CX0 3 fNK dNK ["keep"] (spV pKeep) := ok_need_keep M G F0.fn F1 F2
  refine F.ok scCountsOf (fun vs H Q E h => ?_) (fun cdv A outer s H vs Q E hr h => ?_)
  · obtain ⟨xs, ⟨k, m, rfl, _⟩, _⟩ := h
    rfl
  · obtain ⟨xs, ⟨k, m, rfl, h2, h8, hm, rfl⟩, kk⟩ := h
    refine ⟨_, pss_cons (ps_expr (pe_call G0 hr (by rfl) F0.mg F0.fn.kp F0.bd .nil pass0 (pa_cons (pv 0) pa_nil)))
      (pss_cons (ps_set (i := 2) scCountsOf.nd rfl (.inl rfl) (pe_lst pa_nil))
      (pss_cons (ps_set (i := 3) scCountsOf.nd rfl (.inl rfl) (pv 1))
      (pss_cons (ps_while PassesOwn.never (pt_cmpR op_gt (pv 3) (pv 0) (nomark _))
        (pss_cons (ps_set (i := 4) scCountsOf.nd rfl (.inl rfl) (pe_op op_sub (pv 0) (pe_op op_mod (pe_op op_sub (pv 3) (pv 0)) pe_int)))
        (pss_cons (ps_expr (pe_bm PySem.F.plainAttrs_list PySem.F.slot_list_append PySem.F.type_list_append mt_append (pv 2) (pa_cons (pv 4) pa_nil)))
        (pss_one (ps_set (i := 3) scCountsOf.nd rfl (.inl rfl) (pe_op op_fdiv (pe_op op_sub (pv 3) (pv 4)) pe_int))))))
      (pss_cons (ps_if (pt_cmpR op_gt (pv 3) pe_int (nomark _)) (pss_one (ps_expr (pe_bm PySem.F.plainAttrs_list PySem.F.slot_list_append PySem.F.type_list_append mt_append (pv 2) (pa_cons (pv 3) pa_nil)))) pss_nil)
      (pss_one (ps_ret (pe_callTy call_tuple_of (by rfl) G.tuple (by decide +kernel) (pa_cons (pv 2) pa_nil)))))))), ?_⟩
    refine q_drop (v := .non) (ev_call (ea_cons (ev_var rfl) ea_nil) (spV.use fun H1 _ => ⟨k, rfl, by omega, by omega, rfl⟩)) fun H1 e1 => ?_
    refine q_asgL (xs := []) (el_lst ea_nil (by decide)) fun p H2 hp e2 h2' => ?_
    refine q_asg (v := .int m) (ev_var rfl) fun H3 e3 => ?_
    have hp0 : H p = none := fresh_back e1 hp
    refine q_while (fun n σ' H' => ∃ (dn : List Nat) (y : Option V), σ' = [some (.int k), some (.int m), some (.ref p), some (.int (n : Nat)), y] ∧ Ex H H' ∧ H' p = some (.lst (natsV dn)) ∧ Sh.counts k m = dn ++ Sh.counts k n ∧ dn.length + n ≤ m) m
      ⟨[], none, rfl, (e1.trans e2).trans e3, e3 p _ h2', rfl, by simp⟩ fun n σ' H' hw => ?_
    obtain ⟨dn, y, rfl, ex, hH, hc, hn⟩ := hw
    refine ⟨decide ((k : Int) < (n : Int)), et_test (ev_op (ev_var rfl) (ev_var rfl) rv_I0), fun hb H4 e4 => ?_, fun hb H4 e4 => ?_⟩
    · have hkn : k < n := by have := of_decide_eq_true hb; omega
      have eh : ((k : Int) - ((n : Int) - (k : Int)) % 2) = ((k - (n - k) % 2 : Nat) : Int) := by omega
      have ed : (((n : Nat) : Int) - ((k - (n - k) % 2 : Nat) : Int)) / 2 = (((n - (k - (n - k) % 2)) / 2 : Nat) : Int) := by omega
      refine ⟨fun σ2 H5 => ∃ (dn' : List Nat) (y : Option V) (n' : Nat), n' < n ∧ σ2 = [some (.int k), some (.int m), some (.ref p), some (.int (n' : Nat)), y] ∧ Ex H H5 ∧ H5 p = some (.lst (natsV dn')) ∧ Sh.counts k m = dn' ++ Sh.counts k n' ∧ dn'.length + n' ≤ m, fun σ2 H5 hN => ?_, ?_⟩
      · obtain ⟨dn', y, n', hlt, a, b, c, d, e⟩ := hN
        exact ⟨n', hlt, dn', y, a, b, c, d, e⟩
      refine q_asg (v := .int ((k - (n - k) % 2 : Nat) : Int)) (ev_is (ev_op (ev_var rfl) (ev_op (ev_op (ev_var rfl) (ev_var rfl) rv_I0) ev_c (rv_I (by decide))) rv_I0) (by rw [eh])) fun H5 e5 => ?_
      have hp5 : H5 p = some (.lst (natsV dn)) := e5 p _ (e4 p _ hH)
      refine q_app (K := K) hp5 (ev_var rfl) (ev_var (v := .int ((k - (n - k) % 2 : Nat) : Int)) rfl) (by unfold natsV; rw [List.length_map]; omega) fun H6 e6 => ?_
      refine s_asg (v := .int (((n - (k - (n - k) % 2)) / 2 : Nat) : Int)) (ev_is (ev_op (ev_op (ev_var rfl) (ev_var rfl) rv_I0) ev_c (rv_I ⟨by decide, by decide⟩)) (by rw [ed])) fun H7 e7 => ?_
      refine ⟨dn ++ [k - (n - k) % 2], _, (n - (k - (n - k) % 2)) / 2, by omega, rfl, ?_, ?_, ?_, ?_⟩
      · exact (Ex.mut (((ex.trans e4).trans e5).trans e6) hp0).trans e7
      · refine e7 p _ ?_
        rw [upd_same]
        unfold natsV
        rw [List.map_append]
        rfl
      · rw [hc, Sh.counts_big hkn h2, List.append_assoc]
        rfl
      · rw [List.length_append, List.length_singleton]
        omega
    · have hkn : ¬ k < n := fun z => of_decide_eq_false hb (by omega)
      have hs : Sh.counts k n = if 0 < n then [n] else [] := Sh.counts_small hkn
      have fin : ∀ (H5 : Hp) (σ5 : L2.St), σ5[2]? = some (some (.ref p)) → Ex H H5 → H5 p = some (.lst (natsV (Sh.counts k m))) →
          tRet (tCB (fun xs H Q => ∃ p ys, xs = [.ref p] ∧ ((SqL K H p ys ∧ ∀ l, H l = none → Q (.ref l) (upd H l (.tup ys))) ∨ (SqT K H p ys ∧ Q (.ref p) H))) (tCons (tVar 2) tNil)) { nx := fun x H' => Q V.non H', rt := Q } σ5 H5 := fun H5 σ5 hσ ex5 hp5 =>
        ⟨_, hσ, p, _, rfl, .inl ⟨SqL.of hp5, fun l hl => kk l _ (fresh_back ex5 hl) (ex5.trans (Ex.new hl)) upd_same⟩⟩
      refine q_when (b := decide ((0 : Int) < (n : Int))) (et_test (ev_op (ev_var rfl) ev_c rv_I0)) (fun hb2 H5 e5 => ?_) fun hb2 H5 e5 => ?_
      · have h0 : 0 < n := by have := of_decide_eq_true hb2; omega
        have hp5 : H5 p = some (.lst (natsV dn)) := e5 p _ (e4 p _ hH)
        refine s_app (K := K) hp5 (ev_var rfl) (ev_var (v := .int (n : Nat)) rfl) (by unfold natsV; rw [List.length_map]; omega) fun H6 e6 => ?_
        refine fin _ _ rfl (Ex.mut (((ex.trans e4).trans e5).trans e6) hp0) ?_
        rw [upd_same, hc, hs, if_pos h0]
        unfold natsV
        rw [List.map_append]
        rfl
      · have h0 : ¬ 0 < n := fun z => of_decide_eq_false hb2 (by omega)
        refine fin _ _ rfl ((ex.trans e4).trans e5) ?_
        rw [hc, hs, if_neg h0, List.append_nil]
        exact e5 p _ (e4 p _ hH)
end
end K11
set_option Elab.async false
set_option linter.all false
set_option maxRecDepth 100000
set_option maxHeartbeats 4000000
namespace K11
open PySem PySem.Spec PyProof.Rows L2 GxR Pu Evl
def spSh (pre : List V → Hp → List (Nat × Nat) → Prop) : Sp := fun vs H Q _ => ∃ L, pre vs H L ∧ ∀ p xs H', H p = none → Ex H H' → H' p = some (.tup xs) → PrT H' L xs → Q (.ref p) H'
theorem scShapeFrom : FnScope ["keep", "first", "laid", "some", "row", "count", "sizes", "size", "place"] ["keep", "first", "laid"] (defScope sShapeFrom) := ⟨rfl, rfl, rfl, by decide +kernel, rfl, by decide +kernel, by decide +kernel⟩
def pShape : List V → Hp → List (Nat × Nat) → Prop := fun vs H L => ∃ k f l : Nat, vs = [.int k, .int f, .int l] ∧ 2 ≤ k ∧ k ≤ 8 ∧ f ≤ l ∧ l ≤ 10000 ∧ L = Sh.shp k f l
/-- sizes and counts -/
def szs (cs : List Nat) : List (Nat × Nat) := (List.range cs.length).map fun i => (2 ^ i, cs.getD i 0)
theorem szs_get {cs : List Nat} {i : Nat} (h : i < cs.length) : (szs cs)[i]? = some (2 ^ i, cs.getD i 0) := by
  unfold szs
  rw [List.getElem?_map, List.getElem?_range h]
  rfl
theorem drop_cons {cs : List Nat} {i : Nat} (h : i < cs.length) : cs.drop i = cs.getD i 0 :: cs.drop (i + 1) := by
  rw [List.drop_eq_getElem_cons h, List.getD_eq_getElem?_getD, List.getElem?_eq_getElem h]
  rfl
section
variable {P : Program} {w : World} {K : PySem.W.Frag} {mg : Str → Option Value} {base : Heap}
variable {fInt fNum fSeq fPar fNN fIK fNK fCO fSF fNR fSh fSt fIS fFO fLS fLG fSA fFB : Addr} {dInt dNum dSeq dPar dNN dIK dNK dCO dSF dNR dSh dSt dIS dFO dLS dLG dSA dFB : FuncData}
theorem ok_shape_from {f : Addr} {fd : FuncData} (M : L2.Mod K mg base) (G : Mg mg) (F : Fun K "shape_from" "shape_from" sShapeFrom f fd) (FC : Fns K mg "counts_of" ["keep", "many"] sCountsOf fCO dCO) (F0 : Fns K mg "need_keep" ["keep"] sNeedKeep fNK dNK) (F1 : Fns K mg "is_keep" ["value"] sIsKeep fIK dIK) (F2 : Fns K mg "is_integer" ["value"] sIsInteger fInt dInt) :
    FnOk P w K mg base CX0 5 f fd ["keep", "first", "laid"] (spSh pShape) := by
  have GC : FnOk P w K mg base CX0 4 fCO dCO ["keep", "many"] (spT pCounts) := ok_counts_of M G FC.fn F0 F1 F2
  refine F.ok scShapeFrom (fun vs H Q E h => ?_) (fun cdv A outer s H vs Q E hr h => ?_)
  · obtain ⟨L, ⟨k, f, l, rfl, _⟩, _⟩ := h
    rfl
  · obtain ⟨L, ⟨k, f, l, rfl, h2, h8, hfl, hl, rfl⟩, kk⟩ := h
    refine ⟨_, pss_cons (ps_set (i := 3) scShapeFrom.nd rfl (.inl rfl) (pe_lst pa_nil))
      (pss_cons (ps_set (i := 4) scShapeFrom.nd rfl (.inr rfl) (pv 1))
      (pss_cons (ps_setLc (i := 6) (own := [("place", 8), ("count", 5)]) (g := gTup K 2 (gCons (gName 8) (gCons (gName 5) gNil))) (by rfl) scShapeFrom.nd rfl rfl (sw_true rfl rfl rfl (by decide +kernel))
          (pi_enumT (by rfl) G.enumerate (pa_cons (pe_call GC hr (by rfl) FC.mg FC.fn.kp FC.bd .nil pass0 (pa_cons (pv 0) (pa_cons (pe_op op_sub (pv 2) (pv 1)) pa_nil))) pa_nil))
          (blkOk_by (own := [("place", 8), ("count", 5)]) (N := ["keep", "first", "laid", "some", "row", "count", "sizes", "size", "place"]) (sc := defScope sShapeFrom) (by decide +kernel))
          (fun _ _ _ _ _ => pg_tup rfl (pgs_cons (pg_name (i := 8) scShapeFrom.nd rfl (.inl rfl)) (pgs_cons (pg_name (i := 5) scShapeFrom.nd rfl (.inl rfl)) pgs_nil)))
          (fun _ _ _ _ _ => pts_nil) (fun _ _ _ _ _ => pe_tup (pa_cons (pe_op op_shl pe_int (pv 8)) (pa_cons (pv 5) pa_nil))))
      (pss_cons (ps_for PassesOwn.never rfl (pi_reversed (by rfl) G.reversed (pa_cons (pv 6) pa_nil)) (pg_tup rfl (pgs_cons (pg_name (i := 7) scShapeFrom.nd rfl (.inr rfl)) (pgs_cons (pg_name (i := 5) scShapeFrom.nd rfl (.inl rfl)) pgs_nil)))
        (pss_cons (ps_expr (pe_bm PySem.F.plainAttrs_list PySem.F.slot_list_extend PySem.F.type_list_extend mt_extend (pv 3) (pa_cons
            (pe_lc (own := [("place", 8)]) (by rfl) scShapeFrom.nd (pi_range1 (by rfl) G.range (pa_cons (pv 5) pa_nil))
              (blkOk_by (own := [("place", 8)]) (N := ["keep", "first", "laid", "some", "row", "count", "sizes", "size", "place"]) (sc := defScope sShapeFrom) (by decide +kernel))
              (fun _ _ _ _ _ => pg_name (i := 8) scShapeFrom.nd rfl (.inl rfl)) (fun _ _ _ _ _ => pts_nil)
              (fun _ _ _ _ _ => pe_tup (pa_cons (pe_op op_add (pv 4) (pe_op op_mul (pv 7) (pv 8))) (pa_cons (pv 7) pa_nil)))) pa_nil)))
        (pss_one (ps_aug (i := 4) scShapeFrom.nd rfl (.inr rfl) (pe_op op_mul (pv 7) (pv 5)) ip_add))))
      (pss_one (ps_ret (pe_callTy call_tuple_of (by rfl) G.tuple (by decide +kernel) (pa_cons (pv 3) pa_nil))))))), ?_⟩
    generalize hcs : Sh.counts k (l - f) = cs
    have hlen : cs.length ≤ 10000 := by
      rw [← hcs]
      have := Sh.counts_len k h2 (l - f)
      omega
    have hle : ∀ i, cs.getD i 0 ≤ 8 := fun i => by
      rw [← hcs]
      have := Sh.counts_le h2 (l - f) i
      omega
    have htot : ∀ i, Sh.tot (cs.drop i) (2 ^ i) ≤ 10000 := fun i => by
      have a := Sh.tot_drop cs i
      rw [← hcs, Sh.counts_tot h2] at a
      rw [← hcs]
      omega
    -- some = [], row = first
    refine q_asgL (xs := []) (el_lst ea_nil (by decide)) fun p H1 hp e1 h1 => ?_
    refine q_asg (v := .int f) (ev_var rfl) fun H2 e2 => ?_
    -- sizes = [..]
    have ec : EvU (tCall (spT pCounts) [] E0 (tCons (tVar 0) (tCons (tOp (rI0 fun i j => .int (i - j)) (tVar 2) (tVar 1)) tNil)))
        [some (.int k), some (.int f), some (.int l), some (.ref p), some (.int f), none, none, none, none] H2 (natsV cs) :=
      eu_call (pre := pCounts) (vs := [.int k, .int ((l : Int) - (f : Int))]) (K := K) (ea_cons (ev_var rfl) (ea_cons (ev_op (ev_var rfl) (ev_var rfl) rv_I0) ea_nil))
        (fun Hx _ => ⟨k, l - f, by rw [show ((l - f : Nat) : Int) = (l : Int) - (f : Int) by omega]; rfl, h2, h8, by omega, by rw [hcs]⟩)
    refine ec H2 (Ex.refl H2) _ fun c H3 hc e3 h3 => ?_
    refine ⟨c, natsV cs, rfl, SqT.of h3, fun D hD => ?_⟩
    have hncs : (natsV cs).length = cs.length := by unfold natsV; rw [List.length_map]
    refine lc_gen (walk_enumT (K := K) (a := c) (xs := natsV cs)) (fun i H acc => PrT H ((szs cs).take i) acc) (by rw [hncs]; omega) hD (fun i H xs ys acc h r => r.upd h) .nil (fun H e => SqT.of (e c _ h3)) ?_ ?_
    · intro i x Ha Hb acc hi ex y hR Qy Qn hy hn
      obtain ⟨T, a, b, rfl, hT, rfl, ha, hb⟩ := y
      rw [hncs] at hi
      have ea : a = .int (i : Nat) := (Option.some.inj ha).symm
      have eb : b = .int (cs.getD i 0 : Nat) := by
        have q : (natsV cs)[i]? = some b := hb
        unfold natsV at q
        rw [List.getElem?_map, List.getElem?_eq_getElem hi] at q
        rw [List.getD_eq_getElem?_getD, List.getElem?_eq_getElem hi]
        exact (Option.some.inj q).symm
      subst ea eb
      refine ⟨T, _, rfl, SqT.of upd_same, rfl, _, _, rfl, _, _, rfl, rfl, rfl, yes_then ?_⟩
      have pw : (1 : Int) * 2 ^ ((i : Nat) : Int).toNat = ((2 ^ i : Nat) : Int) := by
        rw [Int.toNat_natCast, Int.one_mul]
        exact (Int.natCast_pow 2 i).symm
      refine eu_tup (vs := [.int ((2 ^ i : Nat) : Int), .int (cs.getD i 0 : Nat)]) (ea_cons (ev_is (ev_op ev_c (ev_var (v := .int (i : Nat)) rfl) (rv_I ⟨by omega, by omega, by decide⟩)) (by rw [pw])) (ea_cons (ev_var rfl) ea_nil)) (by show 2 ≤ 100000; decide) _ (Ex.refl _) _ fun q H5 hq e5 h5 => ?_
      refine hy _ _ ((Ex.new hT).trans e5) ?_
      rw [List.take_add_one, szs_get hi]
      exact (hR.ex ((Ex.new hT).trans e5)).snoc h5
    · intro H4 refs e4 hDr hR
      rw [hncs, List.take_of_length_le (by unfold szs; rw [List.length_map, List.length_range]; exact Nat.le_refl _)] at hR
      have ex4 : Ex H H4 := ((e1.trans e2).trans e3).trans e4
      have hrl : refs.length = cs.length := by
        rw [← hR.len]
        unfold szs
        rw [List.length_map, List.length_range]
      have hp4 : H4 p = some (.lst []) := e4 p _ (e3 p _ (e2 p _ h1))
      have hD4 : H4 D = some (.lst refs) := hDr
      have npD : p ≠ D := fun z => by
        have q := e3 p _ (e2 p _ h1)
        rw [z, hD] at q
        cases q
      have D0 : H D = none := fresh_back ((e1.trans e2).trans e3) hD
      -- for size, count in reversed(sizes)
      refine ⟨.ref D, rfl, D, refs, rfl, SqL.of hD4, for_it (walk_rev (K := K) (a := D) (xs := refs)) (fun i σ' H' => ∃ (y5 y7 y8 : Option V) (acc : List V), σ' = [some (.int k), some (.int f), some (.int l), some (.ref p), some (.int ((f + Sh.tot (cs.drop (cs.length - i)) (2 ^ (cs.length - i)) : Nat) : Int)), y5, some (.ref D), y7, y8] ∧
          Ex H H' ∧ H' D = some (.lst refs) ∧ PrT H' (szs cs) refs ∧ H' p = some (.lst acc) ∧ PrT H' (Sh.sh f (cs.drop (cs.length - i)) (2 ^ (cs.length - i))) acc) ?_ (fun i σ' H' _ ⟨_, _, _, _, _, _, h, _⟩ => SqL.of h) ?_ ?_⟩
      · refine ⟨none, none, none, [], ?_, ex4, hD4, hR, hp4, ?_⟩
        · rw [Nat.sub_zero, List.drop_length]
          rfl
        · rw [Nat.sub_zero, List.drop_length]
          exact .nil
      · intro i x σ' Ha Hb hi hPv hy
        obtain ⟨y5, y7, y8, acc, rfl, exA, hDA, hRA, hpA, hSA⟩ := hPv
        obtain ⟨rfl, hx⟩ := hy
        rw [hrl] at hi hx
        obtain ⟨j, hj, hij⟩ : ∃ j, j < cs.length ∧ cs.length - i = j + 1 := ⟨cs.length - 1 - i, by omega, by omega⟩
        have ej : cs.length - 1 - i = j := by omega
        have ej2 : cs.length - (i + 1) = j := by omega
        rw [ej] at hx
        rw [hij] at hSA
        obtain ⟨pr, hpr, b, rfl, hb⟩ := Paired.at hRA hx
        rw [szs_get hj] at hpr
        have hpe : pr = (2 ^ j, cs.getD j 0) := (Option.some.inj hpr).symm
        subst hpe
        have hc8 := hle j
        have t1 := htot (j + 1)
        have tj : Sh.tot (cs.drop j) (2 ^ j) = Sh.tot (cs.drop (j + 1)) (2 ^ (j + 1)) + 2 ^ j * cs.getD j 0 := by
          rw [drop_cons hj, Nat.pow_succ, Nat.mul_comm (2 ^ j) 2]
          rfl
        have sj : Sh.sh f (cs.drop j) (2 ^ j) = Sh.sh f (cs.drop (j + 1)) (2 ^ (j + 1)) ++ (List.range (cs.getD j 0)).map fun q => (f + Sh.tot (cs.drop (j + 1)) (2 ^ (j + 1)) + 2 ^ j * q, 2 ^ j) := by
          rw [drop_cons hj, Nat.pow_succ, Nat.mul_comm (2 ^ j) 2]
          rfl
        have hacc : acc.length ≤ 10000 := by
          rw [← hSA.len]
          exact Nat.le_trans (Sh.sh_len _ _ _ (Nat.two_pow_pos _)) t1
        rw [hij]
        refine ⟨b, _, rfl, SqT.of hb, rfl, _, _, rfl, _, _, rfl, rfl, ?_⟩
        -- some.extend([..])
        refine ⟨.ref p, rfl, .inl ⟨rfl, acc, SqL.of hpA⟩, .int (cs.getD j 0 : Nat), rfl, (cs.getD j 0 : Nat), rfl, by omega, by omega, fun D2 hD2 => ?_⟩
        refine lc_gen walk_range (fun i H acc2 => PrT H ((List.range i).map fun q => (f + Sh.tot (cs.drop (j + 1)) (2 ^ (j + 1)) + 2 ^ j * q, 2 ^ j)) acc2) (by rw [Int.toNat_natCast]; omega) hD2 (fun i H xs ys acc h r => r.upd h) .nil (fun _ _ => True.intro) ?_ ?_
        · intro q x Hc Hd acc2 hq ex2 y hR2 Qy Qn hy hn
          obtain ⟨rfl, rfl⟩ := y
          have hq2 : q < cs.getD j 0 := by
            rw [Int.toNat_natCast] at hq
            exact hq
          refine ⟨rfl, yes_then ?_⟩
          refine eu_tup (vs := [.int ((f + Sh.tot (cs.drop (j + 1)) (2 ^ (j + 1)) + 2 ^ j * q : Nat) : Int), .int ((2 ^ j : Nat) : Int)])
            (ea_cons (ev_is (ev_op (ev_var rfl) (ev_op (ev_var rfl) (ev_var rfl) (rv_I (.inr ⟨by omega, by omega⟩))) rv_I0) ?_) (ea_cons (ev_var rfl) ea_nil)) (by show 2 ≤ 100000; decide) _ (Ex.refl _) _ fun T H5 hT e5 h5 => ?_
          · show V.int _ = V.int _
            congr 1
            simp only [Int.natCast_add, Int.natCast_mul, Int.zero_add]
          · refine hy _ _ e5 ?_
            rw [List.range_succ, List.map_append]
            exact (hR2.ex e5).snoc h5
        · intro H5 acc2 e5 hD5 hR2
          have hc : ((cs.getD j 0 : Nat) : Int).toNat = cs.getD j 0 := Int.toNat_natCast _
          rw [hc] at hR2
          have hl2 : acc2.length = cs.getD j 0 := by
            rw [← hR2.len, List.length_map, List.length_range]
          have hp5 : H5 p = some (.lst acc) := e5 p _ hpA
          refine ⟨p, D2, acc, acc2, rfl, rfl, hp5, hD5, Nat.le_trans (show acc.length + acc2.length ≤ 20000 by omega) (by decide), ?_⟩
          have p0 : H p = none := hp
          refine s_aug (f := fun i j => i + j) (a := ((f + Sh.tot (cs.drop (j + 1)) (2 ^ (j + 1)) : Nat) : Int)) (b := ((2 ^ j : Nat) : Int) * ((cs.getD j 0 : Nat) : Int)) rfl (ev_op (ev_var rfl) (ev_var rfl) (rv_I (.inr ⟨by omega, by omega⟩))) fun H6 e6 => ?_
          have nDp : D ≠ p := Ne.symm npD
          refine ⟨some (.int (cs.getD j 0 : Nat)), some (.int ((2 ^ j : Nat) : Int)), y8, acc ++ acc2, ?_, (Ex.mut (exA.trans e5) p0).trans e6, ?_, ?_, e6 p _ upd_same, ?_⟩
          · rw [ej2, tj]
            have e9 : ((f + (Sh.tot (cs.drop (j + 1)) (2 ^ (j + 1)) + 2 ^ j * cs.getD j 0) : Nat) : Int) = ((f + Sh.tot (cs.drop (j + 1)) (2 ^ (j + 1)) : Nat) : Int) + ((2 ^ j : Nat) : Int) * ((cs.getD j 0 : Nat) : Int) := by
              simp only [Int.natCast_add, Int.natCast_mul]
              omega
            rw [e9]
            rfl
          · refine e6 D _ ?_
            rw [upd_ne nDp]
            exact e5 D _ hDA
          · exact ((hRA.ex e5).upd hp5).ex e6
          · rw [ej2, sj]
            exact Paired.app (((hSA.ex e5).upd hp5).ex e6) ((hR2.upd hp5).ex e6)
      · intro σ' Hz hPv
        obtain ⟨y5, y7, y8, acc, rfl, exZ, hDZ, hRZ, hpZ, hSZ⟩ := hPv
        rw [hrl, Nat.sub_self] at hSZ
        refine ⟨.ref p, rfl, p, acc, rfl, .inl ⟨SqL.of hpZ, fun q hq => ?_⟩⟩
        refine kk q acc _ (fresh_back exZ hq) (exZ.trans (Ex.new hq)) upd_same ?_
        have e : Sh.shp k f l = Sh.sh f (cs.drop 0) (2 ^ 0) := by
          unfold Sh.shp
          rw [hcs]
          rfl
        rw [e]
        exact hSZ.ex (Ex.new hq)
end
end K11
namespace K11
open PySem PySem.Spec PyProof.Rows L2 GxR Pu Evl
theorem scFirstOf : FnScope ["some", "laid"] ["some", "laid"] (defScope sFirstOf) := ⟨rfl, rfl, rfl, by decide +kernel, rfl, by decide +kernel, by decide +kernel⟩
structure Base (P : Program) (w : World) (K : PySem.W.Frag) (mg : Str → Option Value) (base : Heap) (fNN fNK fSF : Addr) (dNN dNK dSF : FuncData) : Prop where
  nn : FnOk P w K mg base CX0 3 fNN dNN ["value"] (spV pNat)
  nk : FnOk P w K mg base CX0 3 fNK dNK ["keep"] (spV pKeep)
  sf : FnOk P w K mg base CX0 5 fSF dSF ["keep", "first", "laid"] (spSh pShape)
section
variable {P : Program} {w : World} {K : PySem.W.Frag} {mg : Str → Option Value} {base : Heap}
variable {fInt fNum fSeq fPar fNN fIK fNK fCO fSF fNR fSh fSt fIS fFO fLS fLG fSA fFB : Addr} {dInt dNum dSeq dPar dNN dIK dNK dCO dSF dNR dSh dSt dIS dFO dLS dLG dSA dFB : FuncData}
def pFirst (K : PySem.W.Frag) : List V → Hp → V → Prop := fun vs H v => ∃ (L : List (Nat × Nat)) (l : Nat) (x : V), vs = [x, .int l] ∧ ShIn K H L x ∧ L.length ≤ 10000 ∧ v = .int (Sh.firstOf L l : Nat)
theorem ok_first_of {f : Addr} {fd : FuncData} (G : Mg mg) (F : Fun K "first_of" "first_of" sFirstOf f fd) : FnOk P w K mg base CX0 1 f fd ["some", "laid"] (spV (pFirst K)) := by
  refine F.ok scFirstOf (fun vs H Q E h => ?_) (fun cdv A outer s H vs Q E hr h => ?_)
  · obtain ⟨v, ⟨L, l, x, rfl, _⟩, _⟩ := h
    rfl
  · obtain ⟨v, ⟨L, l, x, rfl, ⟨a, xs, rfl, hq, hp⟩, hz, rfl⟩, kk⟩ := h
    refine ⟨_, pss_one (ps_ret (pe_ifExp (pt_cmpR op_gt (pe_callB call_len (by rfl) G.len boot_len (pa_cons (pv 0) pa_nil)) pe_int (nomark _)) (pe_ix ix_seq (pe_ix ix_seq (pv 0) pe_int (fun _ _ => rfl)) pe_int (fun _ _ => rfl)) (pv 1))), ?_⟩
    have hl : L.length = xs.length := Paired.length hp
    refine ⟨.ref a, rfl, .ref a, xs.length, rfl, hq.elim (fun q => .inr ⟨xs, q, rfl⟩) (fun q => .inl ⟨xs, q, rfl⟩), (xs.length : Int), 0, rfl, rfl, _, rfl, ?_⟩
    cases hp with
    | nil =>
      refine (ite2 (fun z => ?_) fun _ => ⟨_, rfl, kk H (Ex.refl H)⟩)
      exact absurd z (by simp)
    | @cons p v L xs r t =>
      obtain ⟨b, rfl, hb⟩ := r
      refine (ite2 (fun _ => ?_) fun z => ?_)
      · have i0 : atI (V.ref b :: xs) ((0 : Nat) : Int) = some (V.ref b) := atI_nat rfl
        have i1 : atI [V.int (p.1 : Nat), V.int (p.2 : Nat)] ((0 : Nat) : Int) = some (V.int (p.1 : Nat)) := atI_nat rfl
        have fin : rIx K (V.ref b) (V.int 0) H fun v H' => Q v H' := by
          rcases hb with q | q
          · exact .inr (.inl ⟨b, _, 0, _, rfl, rfl, q, i1, kk H (Ex.refl H)⟩)
          · exact .inl ⟨b, _, 0, _, rfl, rfl, q, i1, kk H (Ex.refl H)⟩
        rcases hq with q | q
        · exact ⟨.ref a, rfl, .inr (.inl ⟨a, _, 0, _, rfl, rfl, q, i0, fin⟩)⟩
        · exact ⟨.ref a, rfl, .inl ⟨a, _, 0, _, rfl, rfl, q, i0, fin⟩⟩
      · exact absurd (decide_eq_true (show (0 : Int) < (((V.ref b :: xs).length : Nat) : Int) by rw [List.length_cons]; omega)) z
def hasRow (r : Nat) (p : Nat × Nat) : Bool := decide (p.1 ≤ r) && decide (r < p.1 + p.2)
end
theorem scIsShape : FnScope ["keep", "laid", "value", "some", "first", "stretch"] ["keep", "laid", "value"] (defScope sIsShape) := ⟨rfl, rfl, rfl, by decide +kernel, rfl, by decide +kernel, by decide +kernel⟩
def spIsShape (K : PySem.W.Frag) (T : Addr) : Sp := fun vs H Q _ => ∃ (k f l : Nat) (x : V), vs = [.int k, .int l, x] ∧ 2 ≤ k ∧ k ≤ 8 ∧ f ≤ l ∧ l ≤ 10000 ∧ ShIn K H (Sh.shp k f l) x ∧ TabG H T ∧ ∀ H', ExT T H H' → Q (.bl true) H'
section
variable {P : Program} {w : World} {K : PySem.W.Frag} {mg : Str → Option Value} {base : Heap} {T c : Addr}
variable {fInt fNum fSeq fPar fNN fIK fNK fCO fSF fNR fSh fSt fIS fFO fLS fLG fSA fFB : Addr} {dInt dNum dSeq dPar dNN dIK dNK dCO dSF dNR dSh dSt dIS dFO dLS dLG dSA dFB : FuncData}
theorem all_true (n : Nat) : (List.range n).all (fun _ => true) = true := by simp
theorem ok_is_shape {f : Addr} {fd : FuncData} (M : L2.Mod K mg base) (G : Mg mg) (F : FunC K "is_shape" "is_shape" sIsShape f fd c) (TB : TabB base mg c T) (B : Base P w K mg base fNN fNK fSF dNN dNK dSF)
    (F1 : Fns K mg "need_keep" ["keep"] sNeedKeep fNK dNK) (F2 : Fns K mg "need_number" ["value"] sNeedNumber fNN dNN) (F3 : Fns K mg "shape_from" ["keep", "first", "laid"] sShapeFrom fSF dSF)
    (F4 : Fns K mg "is_sequence" ["value"] sIsSequence fSeq dSeq) (F5 : Fns K mg "is_stretch" ["value"] sIsStretch fSt dSt) (G5 : PF P w K mg base 3 fSt dSt ["value"] pStretch) (F6 : Fns K mg "first_of" ["some", "laid"] sFirstOf fFO dFO) (G6 : FnOk P w K mg base CX0 1 fFO dFO ["some", "laid"] (spV (pFirst K))) :
    FnOk P w K mg base CX0 6 f fd ["keep", "laid", "value"] (spIsShape K T) := by
  have G4 : FnOk P w K mg base CX0 1 fSeq dSeq ["value"] (spPure P w base ["value"] pSequence) := (pf_is_sequence M G F4.fn).ok
  refine F.ok scIsShape (fun vs H Q E h => ?_) (fun A outer s H vs Q E hr h => ?_)
  · obtain ⟨k, f, l, x, rfl, _⟩ := h
    rfl
  · obtain ⟨k, f, l, x, rfl, h2, h8, hfl, hl, ⟨a, xs, rfl, hq, hp⟩, ht, kk⟩ := h
    have hu : A.units + 3 + 64 < cLine := hr.units
    refine ⟨_, pss_cons (ps_expr (pe_call B.nk (hr.mono (by decide)) (by rfl) F1.mg F1.fn.kp F1.bd .nil pass0 (pa_cons (pv 0) pa_nil)))
      (pss_cons (ps_expr (pe_call B.nn (hr.mono (by decide)) (by rfl) F2.mg F2.fn.kp F2.bd .nil pass0 (pa_cons (pv 1) pa_nil)))
      (pss_cons (ps_if (PW.pt (pw_or (pt_not (pt_val (pe_call G4 (hr.mono (by decide)) (by rfl) F4.mg F4.fn.kp F4.bd .nil pass0 (pa_cons (pv 2) pa_nil))))
          (pw_or1 (pt_not (pt_val (pe_allQ (k := 3) (T := T) (c := c) (hr.mono (by decide)) (by rfl) G.all TB rfl (GenS.of rfl rfl (by decide +kernel) rfl rfl (by decide +kernel)) (pv 2)))))))
        (pss_one (ps_ret pe_bl)) pss_nil)
      (pss_cons (ps_set (i := 3) scIsShape.nd rfl (.inl rfl) (pe_callTy call_tuple_of (by rfl) G.tuple (by decide +kernel) (pa_cons
          (pe_lc (own := [("stretch", 5)]) (te := tCB (rTupleOf K) (tCons (tVar 5) tNil)) (by rfl) scIsShape.nd (pi_seq (pv 2))
            (blkOk_by (own := [("stretch", 5)]) (N := ["keep", "laid", "value", "some", "first", "stretch"]) (sc := defScope sIsShape) (by decide +kernel))
            (fun _ _ _ _ _ => pg_name (i := 5) scIsShape.nd rfl (.inl rfl)) (fun _ _ _ _ _ => pts_nil)
            (fun _ _ _ _ _ => pe_callTy (T := "tuple") call_tuple_of (by rfl) G.tuple (by decide +kernel) (pa_cons (pv 5) pa_nil))) pa_nil)))
      (pss_cons (ps_set (i := 4) scIsShape.nd rfl (.inl rfl) (pe_call G6 (hr.mono (by decide)) (by rfl) F6.mg F6.fn.kp F6.bd .nil pass0 (pa_cons (pv 3) (pa_cons (pv 1) pa_nil))))
      (pss_one (ps_ret (pe_and (pe_cmpR op_le (pv 4) (pv 1) (nomark _)) (pe_one (pe_cmpR (op_eqD hu) (pv 3) (pe_call B.sf hr (by rfl) F3.mg F3.fn.kp F3.bd .nil pass0 (pa_cons (pv 0) (pa_cons (pv 4) (pa_cons (pv 1) pa_nil)))) (nomark _)))))))))), ?_⟩
    have hlen : (Sh.shp k f l).length = xs.length := Paired.length hp
    have hzl : (Sh.shp k f l).length ≤ 10000 := Nat.le_trans (Sh.shp_len h2) (by omega)
    refine q_drop (v := .non) (ev_call (ea_cons (ev_var rfl) ea_nil) (spV.use fun H1 _ => ⟨k, rfl, by omega, by omega, rfl⟩)) fun H1 e1 => ?_
    refine q_drop (v := .non) (ev_call (ea_cons (ev_var rfl) ea_nil) (spV.use fun H1 _ => ⟨l, rfl, by omega, rfl⟩)) fun H2 e2 => ?_
    have hq2 : SqE K H2 a xs := (hq.ex e1).ex e2
    have hp2 : PrIn K H2 (Sh.shp k f l) xs := (hp.ex e1).ex e2
    have ht2 : TabG H2 T := TabG.ex (TabG.ex ht e1) e2
    have t1 : EvT (tNot (tB (tCall (spPure P w base ["value"] pSequence) [] E0 (tCons (tVar 2) tNil)))) (start ["keep", "laid", "value", "some", "first", "stretch"] [.int k, .int l, .ref a]) H2 (!true) :=
      et_not (et_B (ev_call (ea_cons (ev_var rfl) ea_nil) (spPure.use rfl fun H1 e h ok bx => by
        obtain ⟨bb, its, rv, sq⟩ := TyG.of_sq ok (M.kin.keeps bx) (hq2.ex e)
        exact ⟨_, _, rfl, TyG.seq sq, by cases bb <;> rfl⟩)))
    refine q_ifOrF t1 fun H3 e3 => ?_
    have hq3 := hq2.ex e3
    have hp3 := hp2.ex e3
    have ht3 := TabG.ex ht2 e3
    refine ⟨.ref a, rfl, a, xs, fun _ => true, rfl, hq3, ht3, ?_, fun H4 t4 => ?_⟩
    · intro B' cenv g i v u hrm hs hg hb hx hn hi rv ok
      obtain ⟨m, ns, hm⟩ := hn
      have FR : FrP K mg base B' cenv g := ⟨M, hx, by rw [hs], hg, hb, hrm.hd⟩
      obtain ⟨p, hp1, b, rfl, hb1⟩ := Paired.at hp3 hi
      obtain ⟨bb, its, rvs, sq⟩ := seq_at ht3 ok (M.kin.keeps hx) hb1
      obtain ⟨u0, u1, rfl, r0, r1⟩ := vals2 rvs
      have st : StG g (.ref b) (isNum (.int (p.1 : Nat)) && isNum (.int (p.2 : Nat))) := .two sq r0 r1 (.int _) (.int _)
      have st2 : StG g (.ref b) true := by
        have z : (isNum (.int (p.1 : Nat)) && isNum (.int (p.2 : Nat))) = true := by
          rw [show isNum (.int (p.1 : Nat)) = decide (((p.1 : Nat) : Int) ≥ 0) from rfl, show isNum (.int (p.2 : Nat)) = decide (((p.2 : Nat) : Int) ≥ 0) from rfl, decide_eq_true (by omega), decide_eq_true (by omega)]
          rfl
        rw [← z]
        exact st
      have val : ∀ {pos : Pos}, EV P w B' cenv g (.Name "stretch" pos) (.ref b) := ev_loc FR (by show cenv.scope.names.lookup _ = _; rw [hs]; rfl) ns hm rv
      exact ev_pf FR G5 hrm (by show cenv.scope.names.lookup _ = _; rw [hs]; rfl) F5.mg F5.fn.kp F5.bd (ea_cons val ea_nil) rfl fun h e => ⟨_, _, rfl, st2.mono e, rfl⟩
    refine ⟨_, rfl, ite2 (fun z => absurd z (by rw [all_true]; decide)) fun _ => ?_⟩
    have x34 : ExT T H3 H4 := ExT.of_tab t4
    have hq4 := hq3.exT ht3 x34
    have hp4 := hp3.exT ht3 x34
    have x4 : ExT T H H4 := ExT.ex' ((e1.trans e2).trans e3) x34
    refine ⟨.ref a, rfl, a, xs, rfl, hq4, fun J Gd wk hG D hD => ?_⟩
    refine lc_gen wk (fun i H acc => PrS K H ((Sh.shp k f l).take i) acc) (by omega) hD (fun i H xs ys acc h r => PrS.upd r h) .nil hG ?_ ?_
    · intro i x Ha Hb acc hi ex y hR Qy Qn hy hn
      obtain ⟨rfl, hx⟩ := y
      obtain ⟨p, hpL, b, rfl, hb⟩ := Paired.at hp4 hx
      have tk : (Sh.shp k f l).take (i + 1) = (Sh.shp k f l).take i ++ [p] := by rw [List.take_add_one, hpL]; rfl
      refine ⟨rfl, yes_then ⟨.ref b, rfl, b, [.int (p.1 : Nat), .int (p.2 : Nat)], rfl, ?_⟩⟩
      rcases hb with q | q
      · refine .inr ⟨ex_t ex q, hy _ _ (Ex.refl _) ?_⟩
        rw [tk]
        exact hR.snoc (ex_t ex q)
      · refine .inl ⟨ex_l ex q, fun r hr => hy _ _ (Ex.new hr) ?_⟩
        rw [tk]
        exact (hR.ex (Ex.new hr)).snoc (SqT.of upd_same)
    · intro H5 acc e5 hD5 hR
      rw [hlen.symm, List.take_length] at hR
      refine ⟨D, acc, rfl, .inl ⟨SqL.of hD5, fun q hq => ?_⟩⟩
      have hR6 := hR.ex (Ex.new (p := q) (o := .tup acc) hq)
      have sq6 : SqT K (upd H5 q (.tup acc)) q acc := SqT.of upd_same
      have x6 : ExT T H (upd H5 q (.tup acc)) := x4.ex (e5.trans (Ex.new hq))
      refine ⟨_, rfl, _, rfl, .int (f : Nat), ⟨Sh.shp k f l, l, .ref q, rfl, ⟨q, acc, rfl, .inl sq6, hR6.in⟩, hzl, by rw [Sh.firstOf_sh h2 hfl]⟩, fun H6 e6 => ?_⟩
      refine ⟨.int (f : Nat), rfl, .int (l : Nat), rfl, f, l, rfl, rfl, decide ((f : Int) ≤ (l : Int)), rfl, ite2 (fun _ => ?_) fun z => absurd (decide_eq_true (by omega)) z⟩
      refine ⟨.ref q, rfl, _, rfl, _, rfl, _, rfl, Sh.shp k f l, ⟨k, f, l, rfl, h2, h8, hfl, hl, rfl⟩, fun p ys H7 hp7 e7 h7 hP => ?_⟩
      refine ⟨dShape (Sh.shp k f l), dShape (Sh.shp k f l), dpShape (ex_t (e6.trans e7) sq6) (hR6.ex (e6.trans e7)), dpShape (SqT.of h7) hP.s, shape_shaped _, shape_shaped _, ?_⟩
      rw [shape_eqv]
      exact kk H7 (x6.ex (e6.trans e7))
end
end K11
set_option Elab.async false
set_option linter.all false
set_option maxRecDepth 100000
set_option maxHeartbeats 4000000
namespace Pu
open PySem PySem.Spec PyProof.Rows L2 GxR
section
variable {P : Program} {w : World} {K : PySem.W.Frag} {mg mb : Str → Option Value} {fa a c : Addr} {cs : List (Addr × Addr)} {fd : FuncData} {N : List Str} {x : Str} {st : Stmt} {s₁ : Shared} {vs : List Value} {ns : List Int}
/-- what a law's body is asked: from any base and state, at the caller that the claim names -/
def BodyOkC (P : Program) (w : World) (K : PySem.W.Frag) (mg : Str → Option Value) (cs : List (Addr × Addr)) (N : List Str) (st : Stmt) (fa a : Addr) (ns : List Int) (cdv : Value) : Prop :=
  ∀ (base : Heap) (s : Shared) (H : Hp), L2.Mod K mg base → (∀ p ∈ cs, TabB base mg p.1 p.2) → (∀ p ∈ cs, H p.2 = some (.tbl #[])) → SqL K H a (ns.map V.int) →
    ∃ t, PSs (cxOf CX0 P w K mg base N "law" (defScope st) fa cdv callerA [] s H E0).nox (defBody st) t ∧ t { nx := fun _ _ => False, rt := fun v _ => v = .bl true } (start N [.ref a]) H
/-- from a heap that is told by H -/
theorem law_fromC {H : Hp} (Fn : FunC K "law" "law" st fa fd c) (S : FnScope N [x] (defScope st)) (hbind : ∀ (s : Shared) (u : Value), BindsTo s fd ⟨[u], []⟩ [(x, u)]) (hr : Room 9 callerA)
    (B : BodyOkC P w K mg cs N st fa a ns (.ref c)) (base : Heap) (M : L2.Mod K mg base) (hT : ∀ p ∈ cs, TabB base mg p.1 p.2) (hH : ∀ p ∈ cs, H p.2 = some (.tbl #[])) (hS : SqL K H a (ns.map V.int))
    (e0 : Env0 P w K mg base callerA [] s₁ H) :
    codeAny (model P w) callerA (.call (.ref fa) ⟨[.ref a], []⟩) (fun r s' => ∃ H', r = .ok (.ret (.bool true)) ∧ s'.os = s₁.os ∧ AllBare s'.gens ∧ Un [] [] H H' s₁.heap s'.heap ∧ HOk P w H' s'.heap) s₁ := by
  obtain ⟨oc, od, kV, doc, pm, an, ct, osl, rfl, lk, hcd⟩ := Fn.ex
  obtain ⟨t, ht, hq⟩ := B base s₁ H M hT hH hS
  have KX : K.In s₁.heap := M.kin.keeps fun b o e => (e0.bs b o e).1
  have lim : s₁.heap.NoLimit := M.nolimit.keeps fun b o e => (e0.bs b o e).1
  have kinds : ∀ y ∈ [x].zip [Value.ref a], (defScope st).names.lookup y.1 = some .local ∨ ((defScope st).names.lookup y.1 = some .cell ∧ ((cellsFrom (s₁.heap.objs.size + 1) (defScope st).names []).lookup y.1).isSome = true) := fun ⟨n, v⟩ hy => by
    rcases S.par n (List.of_mem_zip hy).1 with q | q
    · exact .inl q
    · exact .inr ⟨q, PySem.W.cellsFrom_some _ _ _ (.inl q)⟩
  refine codeAny_call_function hr.depth (KX _ _ lk) rfl S.co S.gen rfl (PySem.W.codeRec_of KX hcd) (hbind s₁ (.ref a) _ _ _ _ ?_)
  refine wpAny_newFunctionEnv_cells S.kind kinds fun env he s1 X => ?_
  subst he
  refine ⟨lim.keeps X.toInCall.keep, codeAny_func ?_⟩
  have I : Inv (cxOf CX0 P w K mg base N "law" (defScope st) fa (.ref c) callerA [] s₁ H E0) [] (start N [.ref a]) H s1 := inv_start (ps := [x]) (us := [.ref a]) S hr.hd e0 rfl (.cons rfl .nil) X
  refine wpAny_mono (ht.run [] s1 (start N [.ref a]) H _ (I.wish _) hq) (fun fl s' hs => ?_) fun e s' hs => hs.elim
  cases fl with
  | ret u =>
    obtain ⟨v, σ', H', J, rv, q⟩ := hs
    have q2 : v = .bl true := q
    subst q2
    obtain rfl : u = Value.bool true := rv
    exact ⟨H', rfl, J.os, J.bare, J.base, J.hok⟩
  | next =>
    obtain ⟨_, _, _, q⟩ := hs
    exact q.elim
  | brk =>
    obtain ⟨_, _, _, q⟩ := hs
    exact False.elim q
  | cont =>
    obtain ⟨_, _, _, q⟩ := hs
    exact False.elim q

/-- the whole end: the heap as it stands behind the top -/
theorem law_endC (KX : K.In s₁.heap) (hns : s₁.heap.Ns mainGlobals mg) (hb : s₁.heap.Ns builtinsNs mb) (hbb : ∀ x : Str, x ≠ "__name__" → mb x = bootBuiltins x) (hlim : s₁.heap.NoLimit) (hg : s₁.gens = #[])
    (hcs : Bare cs K s₁.heap) (hbm : BltMod mg s₁.heap)
    (ha : s₁.heap.get? a = some { cls := .type "list", data := .seq vs.toArray }) (hi : IntsAre vs ns) (hl : ns.length ≤ sizeLine)
    (Fn : FunC K "law" "law" st fa fd c) (S : FnScope N [x] (defScope st)) (hbind : ∀ (s : Shared) (u : Value), BindsTo s fd ⟨[u], []⟩ [(x, u)]) (hr : Room 9 callerA) (B : BodyOkC P w K mg cs N st fa a ns (.ref c)) :
    SaysTrue P w fa a s₁ := by
  have hT := fun p hp => (hcs p hp).1.1
  have nT := fun p hp => (hcs p hp).1.2
  have C := fun p hp => (hcs p hp).2
  -- the tables, the script
  let Ts := cs.map (·.2)
  have tab : ∀ b, b ∈ Ts → s₁.heap.get? b = some { cls := .none, data := .fields #[] } := fun b h => by
    obtain ⟨p, hp, rfl⟩ := List.mem_map.mp h
    exact hT p hp
  have inT : ∀ p ∈ cs, p.2 ∈ Ts := fun p hp => List.mem_map.mpr ⟨p, hp, rfl⟩
  have aNot : a ∉ Ts := fun z => by
    have q := (tab a z).symm.trans ha
    cases congrArg Obj.data (Option.some.inj q)
  have rv := vals_ints hi
  have frame : ∀ (u : Option HO), (u = none ∨ u = some (.frz { cls := .type "list", data := .seq vs.toArray } (.lst (ns.map V.int)))) → (u ≠ none → K.lookup a = none) →
      SqL K (fun b => if b = a then u else if b ∈ Ts then some (.tbl #[]) else none) a (ns.map V.int) →
      SaysTrue P w fa a s₁ := by
    intro u hu hKa hS
    generalize hHdef : (fun b => if b = a then u else if b ∈ Ts then some (HO.tbl #[]) else none : Hp) = H at hS
    have Ha : H a = u := by rw [← hHdef]; exact if_pos rfl
    have HT : ∀ b, b ∈ Ts → H b = some (.tbl #[]) := fun b h => by
      have nb : b ≠ a := fun z => aNot (z ▸ h)
      rw [← hHdef]
      exact (if_neg nb).trans (if_pos h)
    have HN : ∀ b, b ≠ a → b ∉ Ts → H b = none := fun b h1 h2 => by
      rw [← hHdef]
      exact (if_neg h1).trans (if_neg h2)
    have ok : HOk P w H s₁.heap := fun b o e => by
      by_cases h1 : b = a
      · subst h1
        rw [Ha] at e
        rcases hu with z | z
        · rw [z] at e; cases e
        · rw [z] at e
          cases e
          exact ⟨ha, by rw [List.length_map]; exact hl, vs, _, rv, ha⟩
      · by_cases h2 : b ∈ Ts
        · rw [HT b h2] at e
          cases e
          exact tab b h2
        · rw [HN b h1 h2] at e; cases e
    -- what is neither a list nor an empty table is not tracked
    have plain : ∀ {b : Addr} {o : Obj}, s₁.heap.get? b = some o → (∀ q n, o.data ≠ .seq q n) → o.data ≠ .fields #[] → H b = none := fun {b o} e h1 h2 => by
      refine HN b (fun z => ?_) fun z => ?_
      · rw [z, ha] at e
        cases e
        exact h1 _ _ rfl
      · rw [tab b z] at e
        cases e
        exact h2 rfl
    have dct : ∀ {b : Addr} {o : Obj} {es : Array DictEntry} {ep : Nat}, s₁.heap.get? b = some o → o.data = .dict es ep → H b = none := fun e d =>
      plain e (fun q n z => by rw [d] at z; cases z) fun z => by rw [d] at z; cases z
    have bg : ∀ {b : Addr} {o : Obj}, s₁.heap.get? b = some o → H b = none → (hidT s₁.heap H).get? b = some o := fun e n => hidT_get e n
    have nsB : ∀ {b : Addr} {m : Str → Option Value}, s₁.heap.Ns b m → (hidT s₁.heap H).Ns b m := fun ⟨o, es, ep, e, d, r⟩ => ⟨o, es, ep, bg e (dct e d), d, r⟩
    have KB : K.In (hidT s₁.heap H) := fun b o e => by
      refine bg (KX b o e) ?_
      by_cases h1 : b = a
      · rw [h1, Ha]
        rcases hu with z | z
        · exact z
        · have := hKa (by rw [z]; simp)
          rw [← h1, e] at this
          cases this
      · refine HN b h1 fun h2 => ?_
        obtain ⟨p, hp, ep⟩ := List.mem_map.mp h2
        rw [← ep, nT p hp] at e
        cases e
    have M : L2.Mod K mg (hidT s₁.heap H) := ⟨KB, nsB hns, ⟨mb, nsB hb, hbb⟩, let ⟨mc, h1, h2⟩ := hlim; ⟨mc, nsB h1, h2⟩⟩
    have TB : ∀ p ∈ cs, TabB (hidT s₁.heap H) mg p.1 p.2 := fun p hp => by
      have hTp := hT p hp
      refine ⟨?_, ?_, fun z => ?_⟩
      · obtain ⟨o, us, file, tf, flags, tg, inF, text, tt, e1, r1, r2, r3, r⟩ := C p hp
        refine ⟨o, us, file, tf, flags, tg, inF, text, tt, bg e1 (plain e1 (fun q n z => ?_) fun z => ?_), r1, r2, r3, r⟩
        · rw [r2] at z; cases z
        · rw [r2] at z
          cases z
          simp at r3
      · obtain ⟨bm, ob, b1, b2, b3, b4, b5, b6⟩ := hbm
        have nG : bm ≠ mainGlobals := fun q => by
          obtain ⟨o, es, ep, e, hd, _⟩ := hns
          rw [q, e] at b3
          cases b3
          rw [hd] at b6
          cases b6
        have nP : bm ≠ p.2 := fun q => by
          rw [q, hTp] at b3
          cases b3
          cases b6
        exact ⟨bm, ob, b1, b2, nG, nP, bg b3 (plain b3 (fun q n z => by rw [b6] at z; cases z) fun z => by rw [b6] at z; cases z), b4, b5, b6⟩
      · obtain ⟨o, es, ep, e, hd, _⟩ := hns
        rw [z, hTp] at e
        cases e
        cases hd
    have e0 : Env0 P w K mg (hidT s₁.heap H) callerA [] s₁ H :=
      ⟨rfl, M, fun b o e => of_hidT e, Nat.le_of_eq (hidT_size _ _), trivial, fun b hb => absurd (show b ∈ ([] : List Addr) from hb) List.not_mem_nil, ok, .of_eq hg⟩
    refine codeAny_mono (law_fromC Fn S hbind hr B _ M TB (fun p hp => HT _ (inT p hp)) hS e0) fun r s' h => ?_
    obtain ⟨H', rfl, os, bare, un, ok'⟩ := h
    have same : ∀ b o, b ∉ Ts → s₁.heap.get? b = some o → s'.heap.get? b = some o := fun b o nb e => by
      by_cases h1 : b = a
      · rcases hu with z | z
        · exact un.keep b o e (by rw [h1, Ha, z]) (by simp) (by simp)
        · have z1 : H a = some (.frz { cls := .type "list", data := .seq vs.toArray } (.lst (ns.map V.int))) := Ha.trans z
          obtain ⟨e2, _⟩ := ok' a _ (un.frzs a _ _ z1)
          rw [h1] at e ⊢
          rw [ha] at e
          cases e
          exact e2
      · exact un.keep b o e (HN b h1 nb) (by simp) (by simp)
    have grown : ∀ b, b ∈ Ts → ∃ more : Array Value, s'.heap.get? b = some { cls := .none, data := .fields more } := fun b h => by
      obtain ⟨more, z⟩ := un.tbls b #[] (HT b h)
      exact ⟨_, ok' b _ z⟩
    refine ⟨rfl, ⟨fun b o e => ?_, fun b o e => ?_⟩, os, bare⟩
    · by_cases h : b ∈ Ts
      · obtain ⟨more, hm⟩ := grown b h
        obtain ⟨p, hp, rfl⟩ := List.mem_map.mp h
        rw [hT p hp] at e
        cases e
        exact .inr (.inl ⟨((C p hp).tab (hT p hp)).isCodeTable, rfl, #[], more, rfl, by rw [Array.empty_append]; exact hm⟩)
      · exact .inl (same b o h e)
    · by_cases h : b ∈ Ts
      · obtain ⟨more, hm⟩ := grown b h
        exact ⟨_, hm⟩
      · exact ⟨o, same b o h e⟩
  cases hk : K.lookup a with
  | some o =>
    have e := KX a o hk
    rw [ha] at e
    cases e
    refine frame none (.inl rfl) (fun h => (h rfl).elim) (.inr ⟨_, vs.toArray, _, hk, rfl, rfl, rfl, ?_, by simpa using rv⟩)
    rw [List.size_toArray, hi.length]
    exact hl
  | none => exact frame _ (.inr rfl) (fun _ => hk) (.inl (.inr ⟨_, if_pos rfl⟩))
end
end Pu
set_option Elab.async false
set_option linter.all false
set_option maxRecDepth 100000
set_option maxHeartbeats 4000000
namespace Pu
open PySem PySem.Spec PyProof.Rows L2 GxR Evl
/-- x is True, x a whole number, None or a truth -/
def isTr : V → Option Bool
  | .int _ => some false
  | .non => some false
  | .bl b => some b
  | _ => none
theorem op_isTr {X : Cx} : OpR X (compareOp .Is) (fun x y H Q => ∃ b, isTr x = some b ∧ y = .bl true ∧ Q (.bl b) H) := by
  intro pins s σ H x y v u Q I rx ry h
  obtain ⟨b, hb, rfl, q⟩ := h
  cases (show u = Value.bool true from ry)
  have no : ∀ {v : Value}, plainIs v (.bool true) = true → v ≠ .bool true → Q (.bl false) H → wpAny (model X.prog X.w) X.A (compareOp .Is v (.bool true)) (EP X pins σ Q) X.xe s := fun p n q => wpAny_is_other p n ⟨.bl false, H, I, rfl, q⟩
  cases x with
  | int i =>
    obtain ⟨t, rfl⟩ := rx
    cases hb
    exact no rfl (fun z => nomatch z) q
  | non =>
    cases (show v = Value.none from rx)
    cases hb
    exact no rfl (fun z => nomatch z) q
  | bl a =>
    cases (show v = Value.bool a from rx)
    cases hb
    cases b with
    | true => exact wpAny_is_self rfl ⟨.bl true, H, I, rfl, q⟩
    | false => exact no rfl (fun z => nomatch z) q
  | _ => cases hb
end Pu
set_option Elab.async false
set_option linter.all false
set_option maxRecDepth 100000
set_option maxHeartbeats 4000000
namespace Pu
open PySem PySem.Spec PyProof.Rows L2 GxR Evl
/-- how a flat value is shown -/
def shownS : V → Option Str
  | .non => some "None"
  | .bl b => some (if b then "True" else "False")
  | .int i => some (toString i)
  | .str x => some (reprText x)
  | _ => none
def okS : V → Bool
  | .int i => decide (i.natAbs ≤ 1000000000)
  | .str x => decide ((reprText x).length ≤ 1000)
  | _ => true
/-- a value that can be shown, so -/
def Shown (K : PySem.W.Frag) (H : Hp) (x : V) (s : Str) : Prop := (shownS x = some s ∧ okS x = true) ∨ ∃ d, Dp K H x d ∧ isDisplay d = true ∧ d.showable = true ∧ d.hasDict = false ∧ d.depth ≤ 60 ∧ d.shown.length ≤ sizeLine ∧ d.shown = s
def rReprS (K : PySem.W.Frag) : List V → Hp → VK → Prop := fun vs H Q => ∃ x s, vs = [x] ∧ Shown K H x s ∧ Q (.str s) H
theorem cr_reprS {X : Cx} (hu : X.A.units + 64 < cLine) (hg : X.A.guards = some []) : CallR X (.builtin "repr") (rReprS X.K) := by
  intro pins s σ H vs us Q I r h
  obtain ⟨x, t, rfl, hx, q⟩ := h
  rcases hx with ⟨h1, h2⟩ | ⟨d, hd, hi, hs, hn, hz, hl, rfl⟩
  · obtain ⟨u, rfl, rv⟩ := vals1 r
    cases x with
    | non =>
      cases (show u = Value.none from rv)
      cases h1
      exact PySem.P.repr_of_none ⟨.str _, H, I.tok _, ⟨_, rfl⟩, q⟩
    | bl b =>
      cases (show u = Value.bool b from rv)
      cases h1
      exact PySem.P.repr_of_bool ⟨.str _, H, I.tok _, ⟨_, rfl⟩, q⟩
    | int i =>
      obtain ⟨t, rfl⟩ := rv
      cases h1
      have h3 : i.natAbs ≤ 1000000000 := of_decide_eq_true h2
      exact PySem.P.repr_of_int (Nat.lt_of_lt_of_le (PySem.Flt.log2_lt_of (by decide) (Nat.lt_of_le_of_lt h3 (by decide : 1000000000 < 2 ^ 40))) (by decide)) ⟨.str _, H, I.tok _, ⟨_, rfl⟩, q⟩
    | str y =>
      obtain ⟨t, rfl⟩ := rv
      cases h1
      have h3 : (reprText y).length ≤ 1000 := of_decide_eq_true h2
      exact PySem.P.repr_of_str ⟨.str _, H, I.tok _, ⟨_, rfl⟩, q⟩ (Nat.le_trans h3 (by decide))
    | _ => cases h1
  · exact cr_repr hu hg pins s σ H _ us Q I r ⟨x, d, rfl, hd, hi, hs, hn, hz, hl, q⟩
end Pu
set_option Elab.async false
set_option linter.all false
set_option maxRecDepth 100000
set_option maxHeartbeats 4000000
namespace Pu
open PySem PySem.Spec PyProof.Rows L2
/-- isinstance(e, c), e the exception that the suite holds, with its dict -/
def rIsD (K : PySem.W.Frag) (cls : Value) (d : Option Addr) (a : Addr) : List V → Hp → VK → Prop := fun xs H Q => ∃ (D dd : Addr) (c : V) (cv : Value) (b : Bool) (fs : List (Str × V)), cls = .ref D ∧ d = some dd ∧ ExcC K D ∧ xs = [.ref a, c] ∧ H dd = some (.xd fs) ∧ (∀ u, RelV c u → u = cv) ∧ PySem.W.kitOne K (.ref D) cv = some b ∧ Q (.bl b) H
theorem call_isD {X : Cx} {a : Addr} {cls : Value} {d : Option Addr} {oe : Obj} {pn : List (Addr × Obj)} (hz : Zc cls d oe) (hf : ∃ vs, oe.data = .fields vs) : CallR (X.suite a ((a, oe) :: pn)) (.builtin "isinstance") (rIsD X.K cls d a) := by
  intro pins s σ H xs us Q I r h
  obtain ⟨D, dd, c, cv, b, fs, rfl, rfl, C, rfl, hx, hcv, e, q⟩ := h
  rcases r with _ | ⟨rx, _ | ⟨rt, _ | _⟩⟩
  cases rx
  obtain rfl := hcv _ rt
  have hget := (I.pin (a, oe) (List.mem_append.mpr (.inl List.mem_cons_self))).1
  have hd : ObjOk X.prog X.w H s.heap dd (.xd fs) := I.hok dd _ hx
  obtain ⟨mA, hns, _⟩ := hd
  obtain ⟨od, ho, _⟩ := lookIn_ns hns
  obtain ⟨vs, hv⟩ := hf
  have J : PySem.W.InstAt s.heap a oe D (some od) := ⟨hget, hz.1, by unfold PySem.W.notCls; rw [hv] <;> rfl, by rw [hz.2]; exact ho⟩
  have hcl : (PySem.W.clsIn X.K D).isSome = true := by
    obtain ⟨cd, hc, _⟩ := PySem.W.any_some C.hd
    rw [hc]
    rfl
  exact PySem.W.kia_one (PySem.W.kitx_exc hcl C.hg C.hk C.hs C.ha C.hn C.ht C.hm) I.kIn J e (fun z => nomatch z) fun tk => ⟨.bl b, H, I.kept (t' := tk) fun _ _ z => z, rfl, q⟩

/-! ### an error of the package that bears one value -/
/-- what the written part says of the error class at C, whose __init__ sets the field `at` -/
structure RefC (K : PySem.W.Frag) (C fI : Addr) : Prop where
  oex : OexC K C
  ini : PySem.W.findIn K (.ref C) "__init__" = some (some (.ref fI))
  tyI : PySem.W.typeIn K (.ref fI) = some (.type "function")
  xf : XfC K C
  ec : ExcC K C
  no : PySem.W.findIn K (.ref C) "at" = some none
/-- __init__(self, at): self.at = at -/
def spInitAt (C : Addr) : Sp := fun vs H Q _ => ∃ (a : Addr) (v : V), vs = [.ref a, v] ∧ H a = some (exo a C none) ∧ (∀ dx, H dx = none → dx ≠ a → Q .non (upd (upd H dx (exd dx [("at", v)])) a (exo a C (some dx))))
/-- raise C(e): what stands behind it -/
def tRef (C : Addr) (te : TE) (W : WX) : TS := fun _ σ H => te σ H fun v H1 => ∀ d, H1 d = none → W (.ref C) (some d) σ (upd H1 d (.xd [("at", v)]))
theorem exd_none {a dx : Addr} {H : Hp} {u : HO} (ha : H a = none) (hd : H dx = none) (ne : dx ≠ a) (o1 o2 o3 : HO) : upd (del (upd (upd (upd H a o1) dx o2) a o3) a) dx u = upd H dx u := by
  funext b
  by_cases h1 : b = dx
  · rw [h1, upd_same, upd_same]
  · rw [upd_ne h1, upd_ne h1]
    by_cases h2 : b = a
    · rw [h2, del_same, ha]
    · rw [del_ne h2, upd_ne h2, upd_ne h1, upd_ne h2]
/-- a reading that lets what is wanted be weakened -/
theorem pe_up {X : Cx} {e : Expr} {te : TE} (h : PE X e te) : PE X e (fun σ H Q => ∃ Q0, te σ H Q0 ∧ ∀ v H1, Q0 v H1 → Q v H1) :=
  ⟨fun pins s σ H Q I ⟨Q0, h0, k⟩ => thn (h.run pins s σ H Q0 I h0) fun u s1 ⟨v, H1, I1, r, q⟩ => ⟨v, H1, I1, r, k _ _ q⟩⟩
theorem ps_ref {X : Cx} {W : WX} {C fI : Addr} {fd : FuncData} {k : Nat} {x : Str} {e : Expr} {te : TE} {p p1 p2 : Pos} (R : RefC X.K C fI) (F : FnOk X.prog X.w X.K X.mg X.base CX0 k fI fd ["self", "at"] (spInitAt C)) (hr : Room (k + 1) X.A) (hb : Binds X.K fd ["self", "at"] [])
    (hc : X.calm = true) (tk : Takes X W) (hg : Gl X x) (hm : X.mg x = some (.ref C)) (he : PE X e te) (hdb : (x == ("__debug__" : Str)) = false := by decide)
    (h1 : starEach [e] X.env = (false, eval e X.env) :: starEach [] X.env := by rfl) (h2 : (backTo p1 (starEach [] X.env)).any (·.1) = false := by rfl) :
    PS X (.Raise (some (.Call (.Name x p) [e] [] p1)) none p2) (tRef C te W) := by
  refine ⟨fun pins s σ H D I h => (ps_raise hc tk (pmk_oex (ds := []) (dvs := []) R.oex R.ini R.tyI F hr hb .nil pass0 hg hm (pa_cons (pe_up he) pa_nil h1) hdb h1 h2)).run pins s σ H D I ?_⟩
  refine ⟨_, h, fun v H1 q => ⟨by simp, fun a ha => ⟨a, v, rfl, upd_same, fun dx hdx ne => ?_⟩⟩⟩
  have hd1 : H1 dx = none := by rw [upd_ne ne] at hdx; exact hdx
  refine ⟨rfl, dx, _, upd_same, by rw [upd_ne ne, upd_same], hd1, ?_⟩
  rw [exd_none ha hd1 ne]
  exact q dx hd1
end Pu
set_option Elab.async false
set_option linter.all false
set_option maxRecDepth 100000
set_option maxHeartbeats 4000000
namespace Pu
open PySem PySem.Spec PyProof.Rows L2 LamX
/-- all stays but what stands at P -/
def ExP (P : Addr) (H H' : Hp) : Prop := ∀ b o, b ≠ P → H b = some o → H' b = some o
section
variable {X : Cx} {pins : List (Addr × Obj)} {σ : L2.St} {H : Hp} {s : Shared}
/-- a lambda is made; of all that is known but the table at P alone is written -/
theorem lam_new {c P : Addr} {q : Str} {params : Arguments} {body : Expr} {scope : Scope} {pos : Pos} {E : Value → Shared → Prop} {Q : Value → Shared → Prop} (I : Inv X pins σ H s) (TB : LamX.TabB X.base X.mg c P) (hcode : X.env.code = .ref c) (hq : X.env.qual ++ "<lambda>" = q)
    (hT : TabS H P q) (hdef : defaultsOf params X.env = ([], [])) (hfree : ∀ y ∈ scope.names, y.2 = .free → ∃ c, X.env.cells.lookup y.1 = some c)
    (fin : ∀ (f c' : Addr) (pm ctv : Value) (H1 : Hp) (s' : Shared), Inv X pins σ H1 s' → ExP P H H1 → TabS H1 P q → s'.heap.get? f = some (PySem.W.kla_obj "<lambda>" q params body scope (cloFrom X.env.cells scope.names []) pm c' ctv) → H1 f = none → f ∉ frs X.stack → H1 c' = some (CodeO c' q) → Q (.ref f) s') :
    wpAny (model X.prog X.w) X.A (eval (.Lambda params body scope pos) X.env) Q E s := by
  subst hq
  have out : ∀ f, s.heap.objs.size ≤ f → f ∉ frs X.stack := fun f hf z => (List.mem_cons.mp (I.stkSub _ z)).elim (fun e => Nat.lt_irrefl _ (Nat.lt_of_lt_of_le (e ▸ I.lt) hf)) (I.nofs hf)
  have hT0 := hT
  obtain ⟨ps, hP, ht, ha⟩ := hT
  have bP : s.heap.BuiltinsAt X.mg P := TB.bm.keeps I.bk
  have gP : s.heap.get? P = some { cls := .none, data := .fields ps } := I.hok P _ hP
  apply PySem.W.kla_eval hdef
  rcases hc : codeAmong pos ps.toList with _ | cv
  · apply PySem.W.kla_makeFunction (mg := X.mg) (c := c) (P := P) (ps := ps) (closure_ok hfree) I.ok.glob (I.mod.glob.keeps I.bk) hcode (TB.code.keeps I.bk) gP ht hc TB.gP bP
    intro c' ctv h' tk hx hge hlt ⟨c2, oc, vs, t, e2, hoc, hd, hv⟩ htb
    cases e2
    have nC : H c' = none := I.hok.fresh hge
    have nPc : P ≠ c' := ne_of_none hP nC
    have sz : s.heap.objs.size ≤ h'.objs.size := Nat.le_trans hge (Nat.le_of_lt hlt)
    have ex : ExP P H (upd (upd H P (.tbl (ps ++ #[rawInt pos.line, rawInt pos.col, .ref c']))) c' (CodeO c' (X.env.qual ++ "<lambda>"))) := fun b o hb e => by rw [upd_ne (ne_of_none e nC), upd_ne hb]; exact e
    have J := inv_table (t' := tk) (more := #[rawInt pos.line, rawInt pos.col, .ref c']) (h' := h'.push (PySem.W.kla_obj "<lambda>" (X.env.qual ++ "<lambda>") params body scope (cloFrom X.env.cells scope.names []) ((X.mg "__name__").getD .none) c' ctv)) I hP
      (fun b o hb e => Heap.get?_push_of_some _ (hx b o hb e)) (Heap.get?_push_of_some _ htb) hge ⟨oc, vs, t, Heap.get?_push_of_some _ hoc, hd, hv⟩
    refine fin h'.objs.size c' ((X.mg "__name__").getD .none) ctv _ _ J ex ⟨_, by rw [upd_ne nPc, upd_same], ?_, fun p2 cv h2 => ?_⟩ (Heap.get?_push_size _ rfl) ?_ (out _ sz) upd_same
    · rw [Array.toList_append]
      exact PySem.TriplesOk_snoc _ _ _ _ ht
    · rw [Array.toList_append] at h2
      rcases among_app _ ht h2 with z | rfl
      · obtain ⟨c0, rfl, e2⟩ := ha p2 cv z
        exact ⟨c0, rfl, ex _ _ (fun z => by rw [z, hP] at e2; exact codeO_ne _ (Option.some.inj e2).symm) e2⟩
      · exact ⟨c', rfl, upd_same⟩
    · rw [upd_ne (Nat.ne_of_gt hlt), upd_ne (Nat.ne_of_gt (Nat.lt_of_lt_of_le (Heap.lt_size gP) sz))]
      exact I.hok.fresh sz
  · obtain ⟨c', rfl, hco⟩ := ha pos cv hc
    apply PySem.W.kla_makeFunctionHit (mg := X.mg) (c := c) (P := P) (ps := ps) (closure_ok hfree) I.ok.glob (I.mod.glob.keeps I.bk) hcode (TB.code.keeps I.bk) gP ht hc bP
    intro ctv h' tk hx sz
    exact fin h'.objs.size c' ((X.mg "__name__").getD .none) ctv H _ (I.kept (t' := tk) fun b o e => Heap.get?_push_of_some _ (hx b o e)) (fun _ _ _ e => e) hT0 (Heap.get?_push_size _ rfl) (I.hok.fresh sz) (out _ sz) hco
end
/-- the reading of f(lambda: body); TT: what f makes of the body's reading -/
def tLm (P : Addr) (q : Str) (TT : (XK → Hp → VK → Prop) → Hp → VK → Prop) (t : XK → TE) : TE := fun σ H Q => TabS H P q ∧ ∀ H1, ExP P H H1 → TabS H1 P q → TT (fun E H' Q' => t E σ H' Q') H1 Q
section
variable {X : Cx}
theorem pe_lm {TT : (XK → Hp → VK → Prop) → Hp → VK → Prop} {x a q : Str} {g c P : Addr} {k : Nat} {fd : FuncData} {st : Stmt} {Ng : List Str} {params : Arguments} {body : Expr} {scope : Scope} {t : XK → TE} {p lpos pos : Pos}
    (F : Fun X.K x x st g fd) (hg : Gl X x) (hm : X.mg x = some (.ref g)) (hb : L2.Binds X.K fd [a] []) (Sg : FnScope Ng [a] (defScope st)) (hN : Ng[0]? = some a) (hv : Vis (defScope st) a) (hG : ∀ cdv, GivesTo X Ng x (defScope st) g cdv (defBody st) a q TT)
    (TB : LamX.TabB X.base X.mg c P) (hcode : X.env.code = .ref c) (hq : X.env.qual ++ "<lambda>" = q) (hr : Room (k + 2) X.A) (L : LamS X.env.scope scope) (hdef : defaultsOf params X.env = ([], []))
    (hbind : ∀ (q : Str) (cl : List (Str × Addr)) (pm cv ctv : Value), bindArgs (PySem.W.kla_fn "<lambda>" q params body scope cl pm cv ctv) ⟨[], []⟩ = pure [])
    (hbody : ∀ (A : Around) (outer : List Env) (s : Shared) (H : Hp) (E : XK) (f c' : Addr), Room k (A.deeper (lamEnv X scope s.heap.objs.size f c')) → PE (lamCx X A outer s H E scope f c') body (t E))
    (hdb : (x == ("__debug__" : Str)) = false := by decide) (hd : (a == ("__debug__" : Str)) = false := by decide) (hcd : (a == ("__classdict__" : Str)) = false := by decide) :
    PE X (.Call (.Name x p) [.Lambda params body scope lpos] [] pos) (tLm P q TT t) := by
  obtain ⟨oc, od, kV, doc, pm, an, cdv, ct, osl, rfl, lk, hcg⟩ := F.ex
  refine ⟨fun pins s σ H Q I ⟨hT, h⟩ => wpAny_Call_Name_kw (ld_glob I hg hm (PySem.W.callWith_K (h₀ := X.base) I.ok.mod.kin F.kp ?_ (by rfl) (by rfl)) hdb)⟩
  refine Calls.spliced_cons (lam_new I TB hcode hq hT hdef (L.has I.ok) fun f c' pm' ctv H1 s' I1 eN T1 hf hfn hfr hco => Calls.spliced_nil ⟨I1.kIn, ?_⟩)
  subst hq
  have rc : codeAny (model X.prog X.w) X.A (.call (.ref g) ⟨[.ref f], []⟩) (CR C8.CX0 X.stack X.prog X.w H1 s' Q C8.E0) s' :=
    run_ofS (N := Ng) (ps := [a]) (us := [.ref f]) (vs := [.ref f]) lk hcg Sg hr I1.env0 (hb s' [.ref f] I1.kIn rfl) (.cons rfl .nil) rfl fun hr' => by
      obtain ⟨t', ht', hq'⟩ := hG cdv f c' s' H1 Q (fun E H' Q' => t E σ H' Q') (fun W pn xe E p1 p2 tk hW => pe_act (i := 0) I1 L hf hfn hfr (hbind _ _ _ _ _) tk hW hr' (fun A outer s H hr2 => hbody A outer s H E f c' hr2) hN hv hd hcd) hco (h H1 eN T1)
      exact ⟨t', ht'.nox, hq'⟩
  refine wpAny_call (codeAny_mono rc fun r s2 hq => ?_)
  rcases r with e | (u | _ | _ | _)
  · exact (show False from hq).elim
  all_goals first | exact I1.after hq | exact False.elim hq
end
end Pu
set_option Elab.async false
set_option linter.all false
set_option maxRecDepth 100000
set_option maxHeartbeats 4000000
namespace Pu
open PySem PySem.Spec PyProof.Rows L2 GxR Evl LamX
/-- the tables of code that a law and its program write: the generators', and the law's own one of lambdas -/
structure Tx where
  ts : List Addr
  p : Addr
  q : Str
structure Tx.Ok (Z : Tx) (H : Hp) : Prop where
  gs : ∀ T ∈ Z.ts, TabG H T
  lm : TabS H Z.p Z.q
/-- a step: but the tables and what stands at M all stays -/
structure Go (Z : Tx) (M : List Addr) (H H' : Hp) : Prop where
  kp : ∀ b o, b ∉ M → (∀ ps, o ≠ .tbl ps) → H b = some o → H' b = some o
  fr : ∀ b, H' b = none → H b = none
  ok : Z.Ok H'
variable {K : PySem.W.Frag} {Z : Tx} {M M' : List Addr} {H H' H1 H2 H3 : Hp} {a b p T : Addr} {xs ys : List V} {ns : List Int}
theorem Tx.Ok.ex (h : Z.Ok H) (e : Ex H H') : Z.Ok H' := ⟨fun T hT => TabG.ex (h.gs T hT) e, h.lm.ext e⟩
theorem Go.refl (h : Z.Ok H) : Go Z M H H := ⟨fun _ _ _ _ e => e, fun _ e => e, h⟩
theorem Go.trans (x : Go Z M H H1) (y : Go Z M H1 H2) : Go Z M H H2 := ⟨fun b o n m e => y.kp b o n m (x.kp b o n m e), fun b e => x.fr b (y.fr b e), y.ok⟩
theorem Go.mono (x : Go Z M H H1) (h : ∀ b ∈ M, b ∈ M') : Go Z M' H H1 := ⟨fun b o n m e => x.kp b o (fun z => n (h b z)) m e, x.fr, x.ok⟩
theorem Go.of0 (x : Go Z [] H H1) : Go Z M H H1 := x.mono fun _ h => absurd h (List.not_mem_nil)
theorem ex_fresh (e : Ex H H') {b : Addr} (h : H' b = none) : H b = none := by
  cases z : H b with
  | none => rfl
  | some o => rw [e b o z] at h; cases h
theorem Go.ex (h : Z.Ok H) (e : Ex H H') : Go Z M H H' := ⟨fun b o _ _ q => e b o q, fun b q => ex_fresh e q, h.ex e⟩
theorem Go.then (x : Go Z M H H1) (e : Ex H1 H2) : Go Z M H H2 := x.trans (Go.ex x.ok e)
theorem Go.tab (h : Z.Ok H) (hT : T ∈ Z.ts) (np : Z.p ∉ Z.ts) (t : Tabbed T H H') : Go Z M H H' := by
  have nT : Z.p ≠ T := fun z => np (z ▸ hT)
  have kp : ∀ b o, (∀ ps, o ≠ .tbl ps) → H b = some o → H' b = some o := fun b o m e => by
    rw [t.2 b (TabG.ne (h.gs T hT) e m)]
    exact e
  refine ⟨fun b o _ m e => kp b o m e, fun b e => ?_, fun S hS => ?_, ?_⟩
  · by_cases z : b = T
    · obtain ⟨ps, q, _⟩ := t.1
      rw [z, q] at e
      cases e
    · rw [← t.2 b z]; exact e
  · by_cases z : S = T
    · rw [z]; exact t.1
    · obtain ⟨ps, q, r⟩ := h.gs S hS
      exact ⟨ps, by rw [t.2 S z]; exact q, r⟩
  · obtain ⟨ps, q, r, c⟩ := h.lm
    refine ⟨ps, by rw [t.2 _ nT]; exact q, r, fun pos cv hc => ?_⟩
    obtain ⟨d, e1, e2⟩ := c pos cv hc
    exact ⟨d, e1, kp _ _ (fun ps => codeO_ne ps) e2⟩
theorem Go.lam (h : Z.Ok H) (np : Z.p ∉ Z.ts) (e : ExP Z.p H H') (t : TabS H' Z.p Z.q) : Go Z M H H' := by
  refine ⟨fun b o _ m q => e b o (fun z => ?_) q, fun b q => ?_, fun S hS => ?_, t⟩
  · obtain ⟨ps, r, _⟩ := h.lm
    rw [z, r] at q
    exact m ps (Option.some.inj q).symm
  · by_cases z : b = Z.p
    · obtain ⟨ps, r, _⟩ := t
      rw [z, r] at q
      cases q
    · cases y : H b with
      | none => rfl
      | some o => rw [e b o z y] at q; cases q
  · obtain ⟨ps, r, u⟩ := h.gs S hS
    exact ⟨ps, e _ _ (fun z => np (z ▸ hS)) r, u⟩
theorem Tx.Ok.list (h : Z.Ok H) {p : Addr} (hp : H p = some (.lst xs)) (ho : H' p = some (.lst ys)) (kp : ∀ b o, b ≠ p → H b = some o → H' b = some o) : Go Z [p] H H' := by
  refine ⟨fun b o n _ e => kp b o (fun z => n (by rw [z]; exact List.mem_singleton.mpr rfl)) e, fun b e => ?_, fun S hS => ?_, ?_⟩
  · by_cases z : b = p
    · rw [z, ho] at e; cases e
    · cases y : H b with
      | none => rfl
      | some o => rw [kp b o z y] at e; cases e
  · obtain ⟨ps, r, u⟩ := h.gs S hS
    exact ⟨ps, kp _ _ (fun z => by rw [z, hp] at r; cases r) r, u⟩
  · obtain ⟨ps, r, u, c⟩ := h.lm
    refine ⟨ps, kp _ _ (fun z => by rw [z, hp] at r; cases r) r, u, fun pos cv hc => ?_⟩
    obtain ⟨d, e1, e2⟩ := c pos cv hc
    exact ⟨d, e1, kp _ _ (fun z => by rw [z, hp] at e2; have := Option.some.inj e2; unfold CodeO at this; cases this) e2⟩
theorem Go.box (h : Z.Ok H) (hb : BoxAt H p) (e : ExB p H H') : Go Z [p] H H' := by
  obtain ⟨g, s, h1, _⟩ := hb
  obtain ⟨⟨g', s', h2, _⟩, k⟩ := e
  exact h.list h1 h2 k
/-- lists stand at M -/
def Ls (M : List Addr) (H : Hp) : Prop := ∀ m ∈ M, ∃ xs, H m = some (.lst xs)
/-- what stays so, whatever is done with M and the tables -/
def Kp (Z : Tx) (M : List Addr) (F : Hp → Prop) (H : Hp) : Prop := ∀ H', Go Z M H H' → F H'
theorem Kp.go {F : Hp → Prop} (k : Kp Z M F H) (x : Go Z M H H1) : Kp Z M F H1 := fun H2 y => k H2 (x.trans y)
theorem Kp.now {F : Hp → Prop} (k : Kp Z M F H) (h : Z.Ok H) : F H := k H (Go.refl h)
theorem Kp.imp {F G : Hp → Prop} (k : Kp Z M F H) (h : ∀ H', F H' → G H') : Kp Z M G H := fun H' x => h H' (k H' x)
theorem Kp.and {F G : Hp → Prop} (k : Kp Z M F H) (l : Kp Z M G H) : Kp Z M (fun H => F H ∧ G H) H := fun H' x => ⟨k H' x, l H' x⟩
theorem Kp.mono {F : Hp → Prop} (k : Kp Z M' F H) (h : ∀ b ∈ M, b ∈ M') : Kp Z M F H := fun H' x => k H' (x.mono h)
theorem Kp.all {α : Type} {F : α → V → Hp → Prop} {L : List α} {xs : List V} (h : Paired (fun s v => Kp Z M (F s v) H) L xs) : Kp Z M (fun H => Paired (fun s v => F s v H) L xs) H := fun H' x => Paired.mapP h fun _ _ k => k H' x
/-- another list may be bent instead, if it is new -/
theorem Kp.renew {F : Hp → Prop} {p' : Addr} (k : Kp Z [p] F H) (n : H p' = none) (e : Ex H H') : Kp Z [p'] F H' := fun H2 y =>
  k H2 ⟨fun b o _ m q => y.kp b o (fun z => by rw [List.mem_singleton.mp z, n] at q; cases q) m (e b o q), fun b q => ex_fresh e (y.fr b q), y.ok⟩
theorem kp_pure {F : Prop} (h : F) : Kp Z M (fun _ => F) H := fun _ _ => h
theorem kp_at {o : HO} (n : b ∉ M) (m : ∀ ps, o ≠ .tbl ps) (e : H b = some o) : Kp Z M (fun H => H b = some o) H := fun _ x => x.kp b o n m e
theorem kp_rd {u : HO} (n : b ∉ M) (m : ∀ ps, u ≠ .tbl ps) (e : Rd H b u) : Kp Z M (fun H => Rd H b u) H := fun H' x => by
  rcases e with e | ⟨o, e⟩
  · exact .inl (x.kp _ _ n m e)
  · exact .inr ⟨o, x.kp _ _ n (fun ps z => by cases z) e⟩
theorem kp_L (n : b ∉ M) (e : SqL K H b xs) : Kp Z M (fun H => SqL K H b xs) H := fun H' x => e.imp (fun e => kp_rd (Z := Z) n (fun ps z => by cases z) e H' x) id
theorem kp_T (l : Ls M H) (e : SqT K H b xs) : Kp Z M (fun H => SqT K H b xs) H := fun H' x => e.imp (fun e => kp_rd (Z := Z) (fun hm => by
  obtain ⟨ys, h⟩ := l b hm
  rcases e with e | ⟨o, e⟩
  · rw [h] at e; cases e
  · rw [h] at e; cases e) (fun ps z => by cases z) e H' x) id
theorem Ls.nil : Ls [] H := fun _ h => absurd h List.not_mem_nil
theorem Ls.one (h : H p = some (.lst xs)) : Ls [p] H := fun m hm => ⟨xs, by rw [List.mem_singleton.mp hm]; exact h⟩
theorem Go.ne (x : Go Z M H H') (h : H b = none) (e : H' b = none) : True := trivial
theorem Go.new {o : HO} (h : Z.Ok H) (n : H b = none) : Go Z M H (upd H b o) := Go.ex h (Ex.new n)
end Pu
set_option Elab.async false
set_option linter.all false
set_option maxRecDepth 100000
set_option maxHeartbeats 4000000
namespace Pu
open PySem PySem.Spec PyProof.Rows L2
/-- the empty set as it is made -/
def bareSet (w : World) : Obj := { cls := .type "set", dict := none, data := .set #[] 0 (.fresh 0 0 (!w.params.followText "set-order")) }
section
variable {P : Program} {w : World} {A : Around} {E : Value → Shared → Prop} {s : Shared}
/-- set(x) of a list of ints: the way of the library's rule for tuples (SetFor), for lists -/
theorem set_of_ints {l : Addr} {xs : Array Value} (zs : List Int) {Q : Value → Shared → Prop} (free : A.handled = none) (isl : s.heap.IsList l xs) (itz : IntsAre xs.toList zs) (few : zs.length + 1 < scanBound)
    (k : ∀ (g : Heap) (tk c : Nat), SetR w g s.heap.objs.size (fun j => decide (j ∈ zs)) c → (∀ b o, s.heap.get? b = some o → g.get? b = some o) → Q (.ref s.heap.objs.size) { s with heap := g, toks := tk }) :
    wpAny (model P w) A (call (.type "set") [.ref l]) Q E s := by
  have size : xs.size = zs.length := by rw [← Array.length_toList]; exact IntsAre.length itz
  obtain ⟨c, tl, mro⟩ := F.called_set.mro
  have a1 := F.called_set.made; have a2 := F.called_set.sub
  refine wpAny_call (codeAny_of_tree ?_)
  show wpAny _ _ (callAny (.type "set") ⟨[.ref l], []⟩) _ _ _
  refine wpAny_pure ⟨Code.quiet_builtin _ (by decide +kernel), codeAny_builtin F.entry_type_call ?_⟩; rw [Around.under_plain (weight_type_call_type "set" [.ref l] []) rfl]
  have a3 := F.called_set.notType; have a4 := F.called_set.canCreate; have a5 := F.typeCall_set_1 (.ref l); repeat (any_goals (first | assumption | wp_step))
  refine codeAny_mono (code_set_led1 (.ref l) (E := E) (Q₁ := fun v t => v = .ref s.heap.objs.size ∧ t = { s with heap := s.heap.push (bareSet w) }) ⟨rfl, rfl⟩) fun r t hr => ?_
  match r, hr with
  | .error e, hr => exact hr
  | .ok (.next), hr => exact hr.elim
  | .ok (.brk), hr => exact hr.elim
  | .ok (.cont), hr => exact hr.elim
  | .ok (.ret v), hr =>
    obtain ⟨rfl, rfl⟩ := hr
    have at0 : (s.heap.push (bareSet w)).get? s.heap.objs.size = some (bareSet w) := Heap.get?_push_size _ rfl
    have ty : Shared.TypeIs { s with heap := s.heap.push (bareSet w) } (.ref s.heap.objs.size) "set" := ⟨_, at0, rfl⟩
    have b1 := F.called_set.init.lookup; have b2 := F.called_set.init.bind (.ref s.heap.objs.size); repeat (any_goals (first | assumption | wp_step))
    refine codeAny_mono (codeAny_call_builtin (R := wants (fun r t => r = .none ∧ ∃ g tk c, t = { s with heap := g, toks := tk } ∧ SetR w g s.heap.objs.size (fun j => decide (j ∈ zs)) c ∧
        (∀ b o, s.heap.get? b = some o → g.get? b = some o)) E) F.called_set.init.plain F.entry_set_init (check_set_init_1 ty ?_)) fun r2 t2 hr2 => ?_
    · obtain ⟨⟨oc, od, odt, osl⟩, ho, hc, nl, hd⟩ := isl
      dsimp only at hc hd; subst hc; subst hd
      have old : (s.heap.push (bareSet w)).get? l = some { cls := .type "list", dict := od, data := .seq xs nl, slots := osl } := Heap.get?_push_of_some _ ho
      have c1 := F.sub_list_set; have c2 := F.sub_list_frozenset; have c3 : (Value.type "list" == Value.type "dict") = false := by decide
      have isl1 : (s.heap.push (bareSet w)).IsList l xs := ⟨_, old, rfl, nl, rfl⟩
      unfold Builtin.«set.__init__» noKeywords Builtin.Frozenset.updateFrom
      generalize it : pyIter = PI; wp_walk; subst it
      refine wpAny_pyIter_list isl1 (wpAny_bind (wpAny_runValue ?_))
      have ll : l < s.heap.objs.size := Heap.lt_size ho
      have free3 : A.in1.in1.in1.handled = none := by simp [free]
      have ne : l ≠ (s.heap.push (bareSet w)).objs.size := by rw [Heap.size_push]; exact Nat.ne_of_lt (Nat.lt_succ_of_lt ll)
      have nin : s.heap.objs.size ∉ [(s.heap.push (bareSet w)).objs.size, l] := by
        rw [Heap.size_push]
        intro z
        rcases List.mem_cons.mp z with z | z
        · exact absurd z (Nat.ne_of_lt (Nat.lt_succ_self _))
        · exact absurd (List.mem_singleton.mp z) (Nat.ne_of_gt ll)
      have each : ∀ (i : Nat) (v : Value), xs[i]? = some v → ∃ k t, zs[i]? = some k ∧ v = .int k t := fun i v hv => by
        have hi : i < zs.length := by rw [← size]; exact (Array.getElem?_eq_some_iff.mp hv).1
        obtain ⟨t, e⟩ := PyProof.Rows.IntsAre.int_at itz i v (by rw [Array.getElem?_toList]; exact hv)
        exact ⟨zs[i], t, List.getElem?_eq_getElem hi, by rw [e, List.getD_eq_getElem?_getD, List.getElem?_eq_getElem hi] <;> rfl⟩
      refine set_update_ints ((Walks.list free3 _ l ne xs).toS) s.heap.objs.size nin zs size few each (xs.size - 0) 0 _ (by omega) (Nat.zero_le _) ⟨⟨_, Heap.get?_push_size _ rfl, rfl, rfl⟩, (isl1.push _)⟩ ?_ ?_
      · exact ⟨0, Nat.le_refl 0, setR_new_at (Heap.get?_push_of_some _ at0)⟩
      · intro t c' mv _ hS
        obtain ⟨g, g2, d2, k2, o2⟩ := t
        have e1 : g2 = s.gens := mv.gens
        have e2 : d2 = s.drawn := mv.drawn
        have e3 : o2 = s.os := mv.os
        subst e1 e2 e3
        show wpAny _ _ _ _ _ _
        refine wpAny_pure ?_
        show wpAny _ _ (ret Value.none) _ _ _
        refine wpAny_pure ⟨rfl, g, k2, c', rfl, hS, fun b o e => ?_⟩
        have hb : b < s.heap.objs.size := Heap.lt_size e
        refine mv.heap b o (fun z => ?_) (Heap.get?_push_of_some _ (Heap.get?_push_of_some _ e))
        rcases List.mem_cons.mp z with z | z
        · exact absurd z (Nat.ne_of_lt hb)
        · rw [Heap.size_push] at z
          exact absurd (List.mem_singleton.mp z) (Nat.ne_of_lt (Nat.lt_succ_of_lt hb))
    · match r2, hr2 with
      | .error e, hr2 => exact hr2
      | .ok (.next), hr2 => exact hr2.elim
      | .ok (.brk), hr2 => exact hr2.elim
      | .ok (.cont), hr2 => exact hr2.elim
      | .ok (.ret v), hr2 =>
        obtain ⟨rfl, g, tk, c', rfl, hS, kp⟩ := hr2
        (repeat (any_goals (first | assumption | wp_step))); exact k _ _ _ hS kp
end
end Pu
set_option Elab.async false
set_option linter.all false
set_option maxRecDepth 100000
set_option maxHeartbeats 4000000
namespace Pu
open PySem PySem.Spec PyProof.Rows L2 GxR
theorem nodup_le : ∀ {l m : List Int}, l.Nodup → (∀ x ∈ l, x ∈ m) → l.length ≤ m.length
  | [], _, _, _ => Nat.zero_le _
  | x :: l, m, hn, h => by
    have hx := h x (List.mem_cons_self ..)
    have n2 := List.nodup_cons.mp hn
    have ih := nodup_le (l := l) (m := m.erase x) n2.2 fun y hy => (List.mem_erase_of_ne (fun e => n2.1 (by rw [← e]; exact hy))).mpr (h y (List.mem_cons_of_mem _ hy))
    rw [List.length_erase_of_mem hx] at ih
    have : 0 < m.length := List.length_pos_of_mem hx
    rw [List.length_cons]
    omega
section
variable {X : Cx}
/-- sorted(set(x)), x a list of numbers below 63 -/
def tSortSet (K : PySem.W.Frag) (ta : TE) : TE := fun σ H Q => ta σ H fun x H1 => ∃ (l : Addr) (ns : List Int), x = .ref l ∧ SqL K H1 l (ns.map V.int) ∧ ns.length ≤ 4000 ∧ (∀ k ∈ ns, 0 ≤ k ∧ k < 63) ∧
  ∀ (ms : List Int) (p : Addr), ms.Pairwise (· < ·) → (∀ k : Int, k ∈ ms ↔ k ∈ ns) → H1 p = none → Q (.ref p) (upd H1 p (.lst (ms.map V.int)))
theorem setR_few {w : World} {h : Heap} {a : Addr} {ns : List Int} {c : Nat} (R : SetR w h a (fun j => decide (j ∈ ns)) c) (hb : ∀ k ∈ ns, 0 ≤ k ∧ k < 63) : c < 64 := by
  obtain ⟨o, es, ep, t, _, _, _, _, nd, mem, _, _, hn, _⟩ := R
  have h1 : (es.toList.map keyOf).length ≤ ((List.range 63).map fun i : Nat => (i : Int)).length := nodup_le nd fun k hk => by
    have := hb k (of_decide_eq_true ((mem k).mpr hk))
    exact List.mem_map.mpr ⟨k.toNat, List.mem_range.mpr (by omega), by omega⟩
  rw [List.length_map, List.length_map, List.length_range, Array.length_toList, hn] at h1
  omega
theorem sort_step {pins : List (Addr × Obj)} {s : Shared} {σ : L2.St} {H : Hp} {a : Addr} {S : Int → Bool} {c : Nat} {Q : VK} {E : Value → Shared → Prop} (hc : X.calm = true) (I : Inv X pins σ H s) (R : SetR X.w s.heap a S c) (h64 : c < 64)
    (q1 : ∀ (ms : List Int) (p : Addr), ms.Pairwise (· < ·) → (∀ k : Int, k ∈ ms ↔ S k = true) → H p = none → Q (.ref p) (upd H p (.lst (ms.map V.int)))) : wpAny (model X.prog X.w) X.A (call (.builtin "sorted") [.ref a]) (EP X pins σ Q) E s := by
  refine sorted_set R (I.ok.hd hc) h64 fun s' p out cc ms k g o hp hg' hi hs hm' hl' => ?_
  have hlt : (ms.map V.int).length ≤ sizeLine := by
    rw [List.length_map, hl', sizeLine_eq]
    omega
  have hn : H p = none := I.hok.fresh hp
  have J : Inv X pins σ (upd H p (.lst (ms.map V.int))) { s with heap := s'.heap, gens := s'.gens, drawn := s'.drawn, toks := s'.toks } := I.call (ch := []) (Un.laid k hp hn) (I.hok.laid k hp ⟨hlt, out.toList, cc, vals_of_ints hi, hg'⟩) (by rw [g]; exact I.bare) (fun _ z => nomatch z)
  have e : s' = { s with heap := s'.heap, gens := s'.gens, drawn := s'.drawn, toks := s'.toks } := by cases s'; cases s; cases o; rfl
  rw [e]
  exact ⟨.ref p, _, J, rfl, q1 ms p hs hm' hn⟩
theorem pe_sortSet {a : Expr} {ta : TE} {p p2 q pos : Pos} (hg : Gl X "sorted") (hm : X.mg "sorted" = none) (hg2 : Gl X "set") (hm2 : X.mg "set" = none) (ha : PE X a ta) (hc : X.calm = true := by rfl)
    (na : starEach [a] X.env = (false, eval a X.env) :: starEach [] X.env := by rfl) : PE X (.Call (.Name "sorted" p) [.Call (.Name "set" p2) [a] [] q] [] pos) (tSortSet X.K ta) := by
  refine ⟨fun pins s σ H Q I h => Call_ (ld_blt I hg hm boot_sorted (PyProof.Rows.callWith_builtin1 (PyProof.Rows.args_cons (Call_ (ld_blt I hg2 hm2 boot_set ?_)) rfl) rfl rfl))⟩
  refine PyProof.Rows.callWith_type1 (PyProof.Rows.args_cons (thn (ha.run pins s σ H _ I h) fun v s1 ⟨x, H1, I1, r1, q1⟩ => PyProof.Rows.args_nil ?_) na) na rfl
  obtain ⟨l, ns, rfl, hq, hl, hb, q1⟩ := q1
  cases (show v = Value.ref l from r1)
  obtain ⟨its, r, pl, hz⟩ := I1.list hq
  have hlen : its.toArray.size = ns.length := by rw [List.size_toArray, ← r.length, List.length_map]
  refine set_of_ints ns (I1.ok.hd hc) pl.isList (by simpa using RZ.intsAre_vals r) (by unfold scanBound; omega) fun h' tk c hS hk => PyProof.Rows.args_nil ?_
  have I2 : Inv X pins σ H1 { s1 with heap := h', toks := tk } := I1.kept fun b o e => hk b o e
  exact sort_step hc I2 hS (setR_few hS hb) fun ms p' hs hm' hn => q1 ms p' hs (fun k => by rw [hm' k]; exact decide_eq_true_iff) hn
end
end Pu
set_option Elab.async false
set_option linter.all false
set_option maxRecDepth 100000
set_option maxHeartbeats 4000000
namespace Pu
open PySem PySem.Spec PyProof.Rows L2 GxR Evl
def bodyOf : Stmt → List Stmt
  | .For _ _ b _ _ => b
  | .If _ b _ _ => b
  | _ => []
/-- a step of the law, told by the turn i -/
def Ti (X : Cx) (st : Stmt) (A B : Nat → L2.St → Hp → Prop) : Prop := ∃ t, PS X st t ∧ ∀ i D σ H, A i σ H → (∀ σ' H', B i σ' H' → D.nx σ' H') → t D σ H
def Tis (X : Cx) (l : List Stmt) (A B : Nat → L2.St → Hp → Prop) : Prop := ∃ t, PSs X l t ∧ ∀ i D σ H, A i σ H → (∀ σ' H', B i σ' H' → D.nx σ' H') → t D σ H
theorem Tis.cons {X : Cx} {st : Stmt} {l : List Stmt} {A B C : Nat → L2.St → Hp → Prop} (h : Ti X st A B) (k : Tis X l B C) : Tis X (st :: l) A C := by
  obtain ⟨t, h1, h2⟩ := h
  obtain ⟨u, k1, k2⟩ := k
  exact ⟨_, pss_cons h1 k1, fun i D σ H a q => h2 i { D with nx := u D } σ H a fun σ' H' b => k2 i D σ' H' b q⟩
theorem Tis.one {X : Cx} {st : Stmt} {A B : Nat → L2.St → Hp → Prop} (h : Ti X st A B) : Tis X [st] A B := by
  obtain ⟨t, h1, h2⟩ := h
  exact ⟨_, pss_one h1, h2⟩
theorem wipe1 {σ : L2.St} {j : Nat} {x : Option V} : wipe ((wipe σ [j]).set j x) [j] = wipe σ [j] := by
  show ((σ.set j none).set j x).set j none = σ.set j none
  rw [List.set_set, List.set_set]
theorem wipe_at {σ : L2.St} {j : Nat} {x : V} (h : j < σ.length) : ((wipe σ [j]).set j (some x))[j]? = some (some x) := sl_eq (by show j < (σ.set j none).length; rw [List.length_set]; exact h)
theorem wipe_ne {σ : L2.St} {i j : Nat} {x : Option V} {y : V} (h : σ[i]? = some (some y)) (n : j ≠ i) : ((wipe σ [j]).set j x)[i]? = some (some y) := sl_ne (sl_ne h n) n
theorem wipe_len {σ : L2.St} {j : Nat} {x : Option V} : ((wipe σ [j]).set j x).length = σ.length := by
  rw [List.length_set]
  show (σ.set j none).length = _
  rw [List.length_set]
theorem Sm.intI {a : Int} (h0 : 0 ≤ a) (h : a ≤ 1000000) : Sm 0 0 (.int a) := by
  obtain ⟨n, rfl⟩ := Int.eq_ofNat_of_zero_le h0
  exact Sm.int (by omega)
/-- a comprehension whose turns may change the heap: an invariant of the turn, the heap, what is made -/
theorem lc_inv {J : It} {n : Nat} {G : Hp → Prop} {Y : Nat → Hp → V → Hp → Prop} (w : Walk J n G Y) {g : TG} {tt : TT} {te : TE} {vs : List Nat} {σ : L2.St} {H1 : Hp} {D : Addr} {Qd : Hp → Prop} (R : Nat → Hp → List V → Prop) (hn : n ≤ 40000)
    (h0 : R 0 (upd H1 D (.lst [])) []) (hG : ∀ i H acc, R i H acc → G H)
    (turn : ∀ i x H H' acc, i < n → H D = some (.lst acc) → R i H acc → Y i H x H' → ∀ (Qy : V → Hp → Prop) (Qn : Hp → Prop), (∀ y H4, H4 D = some (.lst acc) → R (i + 1) (upd H4 D (.lst (acc ++ [y]))) (acc ++ [y]) → Qy y H4) → (∀ H3, H3 D = some (.lst acc) → R (i + 1) H3 acc → Qn H3) →
      g x (wipe σ vs) H' fun σ2 H2 => wipe σ2 vs = wipe σ vs ∧ tt σ2 H2 fun b H3 => if b = true then te σ2 H3 Qy else Qn H3)
    (hd : ∀ H acc, H D = some (.lst acc) → R n H acc → Qd H) :
    ∃ W : Nat → Nat → Hp → Prop, (∃ m, W 0 m (upd H1 D (.lst []))) ∧ ∀ i m H, W i m H →
      (J.stop i H ∧ Qd H) ∨ (J.go i H ∧ ∃ Nx : Hp → Prop, (∀ H', Nx H' → ∃ m', m' < m ∧ W (i + 1) m' H') ∧ ∀ x H', J.yld i H x H' → g x (wipe σ vs) H' fun σ2 H2 => wipe σ2 vs = wipe σ vs ∧ tt σ2 H2 fun b H3 =>
        if b = true then te σ2 H3 fun y H4 => ∃ acc, H4 D = some (.lst acc) ∧ acc.length < sizeLine ∧ Nx (upd H4 D (.lst (acc ++ [y]))) else Nx H3) := by
  refine lc_it w (fun i H => ∃ acc, H D = some (.lst acc) ∧ acc.length ≤ i ∧ R i H acc) ⟨[], upd_same, Nat.le_refl _, h0⟩ (fun i H _ p => ?_) (fun i x H H' hi p y => ?_) fun H p => ?_
  · obtain ⟨acc, _, _, r⟩ := p
    exact hG i H acc r
  · obtain ⟨acc, hH, hl, hR⟩ := p
    refine turn i x H H' acc hi hH hR y _ _ (fun v H4 h4 r4 => ?_) fun H3 h3 r3 => ⟨acc, h3, Nat.le_succ_of_le hl, r3⟩
    refine ⟨acc, h4, Nat.lt_of_le_of_lt (show acc.length ≤ 40000 by omega) (by decide), acc ++ [v], upd_same, ?_, r4⟩
    rw [List.length_append, List.length_singleton]
    omega
  · obtain ⟨acc, hH, _, hR⟩ := p
    exact hd H acc hH hR
end Pu
set_option Elab.async false
set_option linter.all false
set_option maxRecDepth 100000
set_option maxHeartbeats 4000000
namespace Pu
open PySem PySem.Spec PyProof.Rows L2 GxR Evl
/-- of two iterations the reader takes one -/
theorem pi_or {X : Cx} {tg it : Expr} {t t' : TI} (h : PI X tg it t) (h' : PI X tg it t') : PI X tg it (fun σ H R => t σ H R ∨ t' σ H R) :=
  ⟨fun pins s σ H R I q => q.elim (fun q => h.run pins s σ H R I q) fun q => h'.run pins s σ H R I q⟩
/-- a list or a tuple is given -/
def Es (K : PySem.W.Frag) (tl : TE) (σ : L2.St) (H : Hp) (xs : List V) : Prop := ∀ H1, Ex H H1 → ∀ Q : VK, (∀ a H2, Ex H1 H2 → SqE K H2 a xs → Q (.ref a) H2) → tl σ H1 Q
variable {K : PySem.W.Frag} {tl te : TE} {tt : TT} {σ : L2.St} {H H' : Hp} {xs : List V} {a : Addr} {j : Nat}
theorem Es.var {i : Nat} (h : σ[i]? = some (some (.ref a))) (q : SqE K H a xs) : Es K (tVar i) σ H xs := fun H1 e Q k => ⟨_, h, k a H1 (Ex.refl H1) (q.ex e)⟩
theorem Es.ofL (h : EvL tl σ H xs) : Es K tl σ H xs := fun H1 e Q k => h H1 e Q fun p H2 _ e2 hp => k p H2 e2 (.inr (SqL.of hp))
theorem Es.ofU (h : EvU tl σ H xs) : Es K tl σ H xs := fun H1 e Q k => h H1 e Q fun p H2 _ e2 hp => k p H2 e2 (.inl (SqT.of hp))
theorem es_sl {th tl2 : TO} {lo hi : Option Int} (h : Ev te σ H (.ref a)) (h1 : EvO tl2 σ H lo) (h2 : EvO th σ H hi) (hs : SqE K H a xs) (hw : ¬ (HT.sIx xs.length 0 lo = 0 ∧ HT.sIx xs.length xs.length hi = xs.length)) : Es K (tSl (fun x lo hi H Q => rSlL K x lo hi H Q ∨ rSlT K x lo hi H Q) te tl2 th) σ H (cutV xs lo hi) := fun H1 e Q k =>
  h H1 e _ fun H2 e2 => h1 H2 (e.trans e2) _ fun H3 e3 => h2 H3 ((e.trans e2).trans e3) _ fun H4 e4 => by
    have q := (((hs.ex e).ex e2).ex e3).ex e4
    rcases q with q | q
    · exact .inr ⟨a, xs, rfl, q, hw, fun p hp => k p _ (((e2.trans e3).trans e4).trans (Ex.new hp)) (.inl (SqT.of upd_same))⟩
    · exact .inl ⟨a, xs, rfl, q, fun p hp => k p _ (((e2.trans e3).trans e4).trans (Ex.new hp)) (.inr (SqL.of upd_same))⟩
theorem q_ifCB {r : List V → Hp → VK → Prop} {tu tw : TS} {D : Ends} (el : EvL te σ H xs) (k : ∀ p H1, Ex H H1 → H1 p = some (.lst xs) → r [.ref p] H1 (fun x H2 => ∃ b, x = .bl b ∧ (if b = true then tu D σ H2 else tw D σ H2))) : tIfS (tB (tCB r (tCons te tNil))) tu tw D σ H :=
  el H (Ex.refl H) _ fun p H1 _ e h => k p H1 e h
theorem s_retCB {r : List V → Hp → VK → Prop} {D : Ends} (el : EvL te σ H xs) (k : ∀ p H1, Ex H H1 → H1 p = some (.lst xs) → r [.ref p] H1 D.rt) : tRet (tCB r (tCons te tNil)) D σ H :=
  el H (Ex.refl H) _ fun p H1 _ e h => k p H1 e h
theorem ev_cbL {r : List V → Hp → VK → Prop} {z : V} (el : EvL te σ H xs) (hr : ∀ p H1, H1 p = some (.lst xs) → RC r [.ref p] H1 z) : Ev (tCB r (tCons te tNil)) σ H z :=
  fun H1 e Q q => el H1 e _ fun p H2 _ e2 h2 => hr p H2 h2 H2 (Ex.refl _) Q fun H3 e3 => q H3 (e2.trans e3)
theorem ev_opU1 {r : R2} {ta tb : TE} {y z : V} (ha : EvU ta σ H xs) (hb : ∀ H1, Ex H H1 → Ev tb σ H1 y) (hr : ∀ p H1, H1 p = some (.tup xs) → RV r (.ref p) y H1 z) : Ev (tOp r ta tb) σ H z := fun H1 e Q q =>
  ha H1 e _ fun p H2 _ e2 h2 => hb H2 (e.trans e2) H2 (Ex.refl _) _ fun H3 e3 => hr p H3 (e3 _ _ h2) H3 (Ex.refl _) Q fun H4 e4 => q H4 ((e2.trans e3).trans e4)
theorem nx_of {D : Ends} (h : D.nx σ H) : tNext D σ H := h
theorem et_yes : EvT tYes σ H true := fun H1 _ _ q => q H1 (Ex.refl H1)
theorem el_lcS (f : Nat → Bool) (v : Nat → V) (h : Es K tl σ H xs) (hl : xs.length ≤ 40000) (ht : ∀ i x H', xs[i]? = some x → Ex H H' → EvT tt (σ.set j (some x)) H' (f i))
    (he : ∀ i x H', xs[i]? = some x → Ex H H' → f i = true → Ev te (σ.set j (some x)) H' (v i)) : EvL (tLc (iSeq K tl) (gName j) tt te [j]) σ H (given xs.length f v) := fun H1 e Q q =>
  h H1 e _ fun a H2 e2 sq => ⟨a, xs, rfl, sq, fun J Gd wk hG D' hD => by
    refine lc_gen wk (fun m H' acc => acc = given m f v) hl hD (fun _ _ _ _ _ _ r => r) rfl hG ?_ ?_
    · intro i x Ha Hb acc hi ex y hR Qy Qn hy hn
      obtain ⟨rfl, hx⟩ := y
      have es : (wipe σ [j]).set j (some x) = σ.set j (some x) := by show (σ.set j none).set j _ = _; rw [List.set_set]
      have e0 := (e.trans e2).trans ex
      refine ⟨wipe1, ?_⟩
      rw [es]
      refine ht i x _ hx e0 _ (Ex.refl _) _ fun H3 e3 => ?_
      cases hf : f i with
      | true =>
        rw [if_pos rfl]
        refine he i x _ hx (e0.trans e3) hf _ (Ex.refl _) _ fun H4 e4 => hy _ _ (e3.trans e4) ?_
        rw [hR, given_yes hf]
      | false =>
        rw [if_neg (by decide)]
        refine hn _ e3 ?_
        rw [hR, given_no hf]
    · intro H4 acc e4 hD4 hR
      exact q D' H4 (ex_fresh e2 hD) (e2.trans e4) (by rw [hD4, hR])⟩
theorem given_all {n : Nat} (v : Nat → V) : given n (fun _ => true) v = (List.range n).map v := by
  unfold given
  rw [List.filter_eq_self.mpr (fun _ _ => rfl)]
theorem el_lcA (v : Nat → V) (h : Es K tl σ H xs) (hl : xs.length ≤ 40000) (he : ∀ i x H', xs[i]? = some x → Ex H H' → Ev te (σ.set j (some x)) H' (v i)) : EvL (tLc (iSeq K tl) (gName j) tYes te [j]) σ H ((List.range xs.length).map v) := by
  rw [← given_all]
  exact el_lcS (fun _ => true) v h hl (fun _ _ _ _ _ => et_yes) fun i x H' h1 h2 _ => he i x H' h1 h2
end Pu
set_option Elab.async false
set_option linter.all false
set_option maxRecDepth 100000
set_option maxHeartbeats 4000000
namespace K11
open PySem PySem.Spec PyProof.Rows L2 GxR Pu Evl
theorem scNeedRows : FnScope ["first", "laid"] ["first", "laid"] (defScope sNeedRows) := ⟨rfl, rfl, rfl, by decide +kernel, rfl, by decide +kernel, by decide +kernel⟩
theorem scShape : FnScope ["keep", "first", "laid"] ["keep", "first", "laid"] (defScope sShape) := ⟨rfl, rfl, rfl, by decide +kernel, rfl, by decide +kernel, by decide +kernel⟩
theorem scLetGo : FnScope ["some", "below", "first", "many"] ["some", "below"] (defScope sLetGo) := ⟨rfl, rfl, rfl, by decide +kernel, rfl, by decide +kernel, by decide +kernel⟩
theorem scLayShape : FnScope ["laid", "some", "keep"] ["laid", "some", "keep"] (defScope sLayShape) := ⟨rfl, rfl, rfl, by decide +kernel, rfl, by decide +kernel, by decide +kernel⟩
section
variable {P : Program} {w : World} {K : PySem.W.Frag} {mg : Str → Option Value} {base : Heap} {T c : Addr}
variable {fInt fNum fSeq fPar fNN fIK fNK fCO fSF fNR fSh fSt fIS fFO fLS fLG fSA fFB : Addr} {dInt dNum dSeq dPar dNN dIK dNK dCO dSF dNR dSh dSt dIS dFO dLS dLG dSA dFB : FuncData}
def pRows : List V → Hp → V → Prop := fun vs H v => ∃ i j : Int, vs = [.int i, .int j] ∧ 0 ≤ i ∧ i ≤ j ∧ v = .non
theorem ok_need_rows {f : Addr} {fd : FuncData} (M : L2.Mod K mg base) (G : Mg mg) (F : Fun K "need_rows" "need_rows" sNeedRows f fd) (F0 : Fns K mg "need_number" ["value"] sNeedNumber fNN dNN) (F1 : Fns K mg "is_number" ["value"] sIsNumber fNum dNum) (F2 : Fns K mg "is_integer" ["value"] sIsInteger fInt dInt) :
    FnOk P w K mg base CX0 4 f fd ["first", "laid"] (spV pRows) := by
  have G0 : FnOk P w K mg base CX0 3 fNN dNN ["value"] (spV pNat) := ok_need_number M G F0.fn F1 F2
  have G1 : FnOk P w K mg base CX0 2 fNum dNum ["value"] (spPure P w base ["value"] pNumber) := (pf_is_number M G F1.fn F2.fn F2.bd F2.mg).ok
  refine F.ok scNeedRows (fun vs H Q E h => ?_) (fun cdv A outer s H vs Q E hr h => ?_)
  · obtain ⟨v, ⟨i, j, rfl, _⟩, _⟩ := h
    rfl
  · obtain ⟨v, ⟨i, j, rfl, hi, hj, rfl⟩, k⟩ := h
    refine ⟨_, pss_cons (ps_expr (pe_call G0 hr (by rfl) F0.mg F0.fn.kp F0.bd .nil pass0 (pa_cons (pv 0) pa_nil)))
      (pss_one (ps_if (PW.pt (pw_or (pt_not (pt_val (pe_call G1 (hr.mono (by decide)) (by rfl) F1.mg F1.fn.kp F1.bd .nil pass0 (pa_cons (pv 1) pa_nil)))) (pw_or1 (pt_cmpR op_lt (pv 1) (pv 0) (nomark _))))) pss_never pss_nil)), ?_⟩
    refine q_drop (v := .non) (ev_call (ea_cons (ev_var rfl) ea_nil) (spV.use fun H1 _ => ⟨i, rfl, hi, rfl⟩)) fun H1 e1 => ?_
    have t1 : EvT (tNot (tB (tCall (spPure P w base ["value"] pNumber) [] E0 (tCons (tVar 1) tNil)))) (start ["first", "laid"] [V.int i, V.int j]) H1 (!true) :=
      et_not (et_B (ev_call (ea_cons (ev_var rfl) ea_nil) (spPure.use rfl fun H1 _ h _ _ => ⟨.int j, "int", rfl, .int j, by rw [show isNum (.int j) = decide (j ≥ 0) from rfl, decide_eq_true (by omega)]⟩)))
    have t2 : EvT (tTest (tOp (rI0 fun i j => .bl (decide (i < j))) (tVar 1) (tVar 0))) (start ["first", "laid"] [V.int i, V.int j]) H1 (decide (j < i)) := et_test (ev_op (ev_var rfl) (ev_var rfl) rv_I0)
    have t3 := et_is (et_or t1 fun _ => t2) (show (!true || decide (j < i)) = false by rw [decide_eq_false (by omega)]; rfl)
    exact s_if t3 (fun z => nomatch z) fun _ H2 e2 => k H2 (e1.trans e2)
theorem ok_shape {f : Addr} {fd : FuncData} (F : Fun K "shape" "shape" sShape f fd) (B : Base P w K mg base fNN fNK fSF dNN dNK dSF) (BR : FnOk P w K mg base CX0 4 fNR dNR ["first", "laid"] (spV pRows)) (F1 : Fns K mg "need_keep" ["keep"] sNeedKeep fNK dNK) (F2 : Fns K mg "need_rows" ["first", "laid"] sNeedRows fNR dNR)
    (F3 : Fns K mg "shape_from" ["keep", "first", "laid"] sShapeFrom fSF dSF) : FnOk P w K mg base CX0 6 f fd ["keep", "first", "laid"] (spSh pShape) := by
  refine F.ok scShape (fun vs H Q E h => ?_) (fun cdv A outer s H vs Q E hr h => ?_)
  · obtain ⟨L, ⟨k, f, l, rfl, _⟩, _⟩ := h
    rfl
  · obtain ⟨L, ⟨k, f, l, rfl, h2, h8, hfl, hl, rfl⟩, kk⟩ := h
    refine ⟨_, pss_cons (ps_expr (pe_call B.nk (hr.mono (by decide)) (by rfl) F1.mg F1.fn.kp F1.bd .nil pass0 (pa_cons (pv 0) pa_nil)))
      (pss_cons (ps_expr (pe_call BR (hr.mono (by decide)) (by rfl) F2.mg F2.fn.kp F2.bd .nil pass0 (pa_cons (pv 1) (pa_cons (pv 2) pa_nil))))
      (pss_one (ps_ret (pe_call B.sf hr (by rfl) F3.mg F3.fn.kp F3.bd .nil pass0 (pa_cons (pv 0) (pa_cons (pv 1) (pa_cons (pv 2) pa_nil))))))), ?_⟩
    refine q_drop (v := .non) (ev_call (ea_cons (ev_var rfl) ea_nil) (spV.use fun H1 _ => ⟨k, rfl, by omega, by omega, rfl⟩)) fun H1 e1 => ?_
    refine q_drop (v := .non) (ev_call (ea_cons (ev_var rfl) (ea_cons (ev_var rfl) ea_nil)) (spV.use fun H1 _ => ⟨f, l, rfl, by omega, by omega, rfl⟩)) fun H2 e2 => ?_
    refine ⟨_, rfl, _, rfl, _, rfl, _, ⟨k, f, l, rfl, h2, h8, hfl, hl, rfl⟩, fun p xs H3 hp e3 h3 h4 => kk p xs H3 (fresh_back (e1.trans e2) hp) ((e1.trans e2).trans e3) h3 h4⟩
def pGo (K : PySem.W.Frag) : List V → Hp → List (Nat × Nat) → Prop := fun vs H R => ∃ (L : List (Nat × Nat)) (b : Nat) (x : V), vs = [x, .int b] ∧ ShIn K H L x ∧ L.length ≤ 10000 ∧ R = Sh.gone b L
theorem gone_snoc (b : Nat) (L : List (Nat × Nat)) (p : Nat × Nat) : Sh.gone b (L ++ [p]) = if b < p.1 + p.2 then Sh.gone b L ++ [p] else Sh.gone b L := by
  unfold Sh.gone
  rw [List.filter_append, List.filter_cons]
  by_cases h : b < p.1 + p.2
  · rw [if_pos h, if_pos (by simpa using h)]
    rfl
  · rw [if_neg h, if_neg (by simpa using h)]
    simp
theorem ok_let_go {f : Addr} {fd : FuncData} (G : Mg mg) (F : Fun K "let_go_shape" "let_go_shape" sLetGo f fd) (B : Base P w K mg base fNN fNK fSF dNN dNK dSF) (F1 : Fns K mg "need_number" ["value"] sNeedNumber fNN dNN) :
    FnOk P w K mg base CX0 4 f fd ["some", "below"] (spSh (pGo K)) := by
  refine F.ok scLetGo (fun vs H Q E h => ?_) (fun cdv A outer s H vs Q E hr h => ?_)
  · obtain ⟨R, ⟨L, b, x, rfl, _⟩, _⟩ := h
    rfl
  · obtain ⟨R, ⟨L, b, x, rfl, ⟨a, xs, rfl, hq, hp⟩, hz, rfl⟩, kk⟩ := h
    refine ⟨_, pss_cons (ps_expr (pe_call B.nn hr (by rfl) F1.mg F1.fn.kp F1.bd .nil pass0 (pa_cons (pv 1) pa_nil)))
      (pss_one (ps_ret (pe_callTy call_tuple_of (by rfl) G.tuple (by decide +kernel) (pa_cons
        (pe_lc (own := [("first", 2), ("many", 3)]) (g := gSeq K 2 (gCons (gName 2) (gCons (gName 3) gNil))) (by rfl) scLetGo.nd (pi_seq (pv 0))
          (blkOk_by (own := [("first", 2), ("many", 3)]) (N := ["some", "below", "first", "many"]) (sc := defScope sLetGo) (by decide +kernel))
          (fun _ _ _ _ _ => pg_seq rfl (pgs_cons (pg_name (i := 2) scLetGo.nd rfl (.inl rfl)) (pgs_cons (pg_name (i := 3) scLetGo.nd rfl (.inl rfl)) pgs_nil)))
          (fun _ _ _ _ _ => pts_one (pt_cmpR op_gt (pe_op op_add (pv 2) (pv 3)) (pv 1) (nomark _)))
          (fun _ _ _ _ _ => pe_tup (pa_cons (pv 2) (pa_cons (pv 3) pa_nil)))) pa_nil)))), ?_⟩
    refine q_drop (v := .non) (ev_call (ea_cons (ev_var rfl) ea_nil) (spV.use fun H1 _ => ⟨b, rfl, by omega, rfl⟩)) fun H1 e1 => ?_
    have hl : L.length = xs.length := Paired.length hp
    refine ⟨_, rfl, a, xs, rfl, hq.ex e1, fun J Gd wk hG D hD => ?_⟩
    refine lc_gen wk (fun i H acc => PrT H (Sh.gone b (L.take i)) acc) (by omega) hD (fun i H xs ys acc h r => r.upd h) .nil hG ?_ ?_
    · intro i x Ha Hb acc hi ex y hR Qy Qn hy hn
      obtain ⟨rfl, hx⟩ := y
      obtain ⟨p, hpL, c, rfl, hc⟩ := Paired.at hp hx
      have tk : L.take (i + 1) = L.take i ++ [p] := by rw [List.take_add_one, hpL]; rfl
      refine ⟨c, _, rfl, (hc.ex e1).ex ex, rfl, _, _, rfl, _, _, rfl, rfl, rfl, ?_⟩
      refine test_then (b := decide ((b : Int) < (p.1 : Int) + (p.2 : Int))) (et_test (ev_op (ev_op (ev_var rfl) (ev_var rfl) rv_I0) (ev_var rfl) rv_I0)) (fun hb H3 e3 => ?_) fun hb H3 e3 => ?_
      · have hlt : b < p.1 + p.2 := by have := of_decide_eq_true hb; omega
        refine eu_tup (vs := [.int (p.1 : Nat), .int (p.2 : Nat)]) (ea_cons (ev_var rfl) (ea_cons (ev_var rfl) ea_nil)) (by show 2 ≤ 100000; decide) _ (Ex.refl _) _ fun T H4 hT e4 h4 => hy _ _ (e3.trans e4) ?_
        rw [tk, gone_snoc, if_pos hlt]
        exact (hR.ex (e3.trans e4)).snoc h4
      · have hlt : ¬ b < p.1 + p.2 := fun z => of_decide_eq_false hb (by omega)
        refine hn H3 e3 ?_
        rw [tk, gone_snoc, if_neg hlt]
        exact hR.ex e3
    · intro H4 acc e4 hD4 hR
      rw [← hl, List.take_length] at hR
      refine ⟨D, acc, rfl, .inl ⟨SqL.of hD4, fun q hq2 => ?_⟩⟩
      have ex4 := e1.trans e4
      exact kk q acc _ (fresh_back ex4 hq2) (ex4.trans (Ex.new hq2)) upd_same (hR.ex (Ex.new hq2))
def spLay (K : PySem.W.Frag) (T : Addr) : Sp := fun vs H Q _ => ∃ (k f l : Nat) (x : V), vs = [.int l, x, .int k] ∧ 2 ≤ k ∧ k ≤ 8 ∧ f ≤ l ∧ l < 10000 ∧ ShIn K H (Sh.shp k f l) x ∧ TabG H T ∧
  ∀ p xs H', H p = none → ExT T H H' → H' p = some (.tup xs) → PrT H' (Sh.shp k f (l + 1)) xs → Q (.ref p) H'
theorem ok_lay_shape {f : Addr} {fd : FuncData} (F : Fun K "lay_shape" "lay_shape" sLayShape f fd) (B : Base P w K mg base fNN fNK fSF dNN dNK dSF) (F0 : Fns K mg "is_shape" ["keep", "laid", "value"] sIsShape fIS dIS)
    (G0 : FnOk P w K mg base CX0 6 fIS dIS ["keep", "laid", "value"] (spIsShape K T)) (F3 : Fns K mg "shape_from" ["keep", "first", "laid"] sShapeFrom fSF dSF) (F6 : Fns K mg "first_of" ["some", "laid"] sFirstOf fFO dFO) (G6 : FnOk P w K mg base CX0 1 fFO dFO ["some", "laid"] (spV (pFirst K))) :
    FnOk P w K mg base CX0 7 f fd ["laid", "some", "keep"] (spLay K T) := by
  refine F.ok scLayShape (fun vs H Q E h => ?_) (fun cdv A outer s H vs Q E hr h => ?_)
  · obtain ⟨k, f, l, x, rfl, _⟩ := h
    rfl
  · obtain ⟨k, f, l, x, rfl, h2, h8, hfl, hl, hs, ht, kk⟩ := h
    refine ⟨_, pss_cons (ps_if (pt_not (pt_val (pe_call G0 hr (by rfl) F0.mg F0.fn.kp F0.bd .nil pass0 (pa_cons (pv 2) (pa_cons (pv 0) (pa_cons (pv 1) pa_nil)))))) pss_never pss_nil)
      (pss_one (ps_ret (pe_call B.sf (hr.mono (by decide)) (by rfl) F3.mg F3.fn.kp F3.bd .nil pass0 (pa_cons (pv 2) (pa_cons
        (pe_call G6 (hr.mono (by decide)) (by rfl) F6.mg F6.fn.kp F6.bd .nil pass0 (pa_cons (pv 1) (pa_cons (pv 0) pa_nil))) (pa_cons (pe_op op_add (pv 0) pe_int) pa_nil)))))), ?_⟩
    refine ⟨_, rfl, _, rfl, _, rfl, k, f, l, x, rfl, h2, h8, hfl, by omega, hs, ht, fun H1 e1 => ?_⟩
    refine ⟨_, rfl, ite2 (fun z => nomatch z) fun _ => ?_⟩
    have hs1 := hs.exT ht e1
    have hzl : (Sh.shp k f l).length ≤ 10000 := Nat.le_trans (Sh.shp_len h2) (by omega)
    refine ⟨_, rfl, _, rfl, _, rfl, .int (f : Nat), ⟨Sh.shp k f l, l, x, rfl, hs1, hzl, by rw [Sh.firstOf_sh h2 hfl]⟩, fun H2 e2 => ?_⟩
    refine ⟨_, rfl, l, 1, rfl, rfl, Sh.shp k f (l + 1), ⟨k, f, l + 1, rfl, h2, h8, by omega, by omega, rfl⟩, fun p ys H3 hp e3 h3 hP => ?_⟩
    exact kk p ys H3 (ExT.fresh ht e1 (fresh_back e2 hp)) (e1.ex (e2.trans e3)) h3 hP
end
end K11
set_option Elab.async false
set_option linter.all false
set_option maxRecDepth 100000
set_option maxHeartbeats 4000000
namespace K11
open PySem PySem.Spec PyProof.Rows L2 GxR Pu Evl
/-- the statement of the class that errors of values have; its __init__ -/
def sInit : Stmt := match topS 2 with | .ClassDef (body := [s]) .. => s | s => s
theorem scInit : FnScope ["self", "at"] ["self", "at"] (defScope sInit) := ⟨rfl, rfl, rfl, by decide +kernel, rfl, by decide +kernel, by decide +kernel⟩
theorem scRefused : FnScope ["_law_ask", "fault"] ["_law_ask"] (defScope sLRefused) := ⟨rfl, rfl, rfl, by decide +kernel, rfl, by decide +kernel, by decide +kernel⟩
section
variable {P : Program} {w : World} {K : PySem.W.Frag} {mg : Str → Option Value} {base : Heap}
theorem ok_init {fI C : Addr} {fd : FuncData} (R : RefC K C fI) (F : Fun K "__init__" "Refused.__init__" sInit fI fd) : FnOk P w K mg base CX0 1 fI fd ["self", "at"] (spInitAt C) := by
  refine F.ok scInit (fun vs H Q E h => ?_) (fun cdv A outer s H vs Q E hr h => ?_)
  · obtain ⟨a, v, rfl, _⟩ := h
    rfl
  · obtain ⟨a, v, rfl, ha, kk⟩ := h
    refine ⟨_, pss_one (ps_ost (pv 0) (pv 1)), ?_⟩
    exact ⟨v, rfl, .ref a, rfl, a, C, rfl, R.oex, R.no, .inl ⟨ha, fun dx h1 h2 => kk dx h1 h2⟩⟩
end
/-- what the def that asks makes of a lambda's reading -/
def TRef (K : PySem.W.Frag) (C : Addr) : (XK → Hp → VK → Prop) → Hp → VK → Prop := fun tl H Q =>
  tl (fun cls d H' => ∃ dd v s, cls = .ref C ∧ d = some dd ∧ H' dd = some (.xd [("at", v)]) ∧ Shown K H' v s ∧ ∀ t, H' t = none → Q (.ref t) (upd H' t (.tup [.str "refused", .str s, .bl true]))) H (fun _ H' => Q .non H')
theorem takes_len {X : Cx} {W : WX} {n : Nat} (hn : X.N.length = n) (tk : Takes X W) : Takes X (fun cls d σ H => σ.length = n → W cls d σ H) := fun u s' ⟨a, B, sI, pins, σ, H, cls, d, e, I, nb, up, sky, na, os, ag, w⟩ =>
  tk u s' ⟨a, B, sI, pins, σ, H, cls, d, e, I, nb, up, sky, na, os, ag, w (I.len.trans hn)⟩
section
variable {X : Cx} {C CF fI g : Addr} {cdg : Value} {q : Str}
theorem ok_refused (R : RefC X.K C fI) (G : Mg X.mg) (hgd : X.A.guards = some []) (hun : X.A.units + 200 < cLine) (mC : X.mg "Refused" = some (.ref C)) (mF : X.mg "FarError" = some (.ref CF)) (kit : PySem.W.kitOne X.K (.ref C) (.ref CF) = some true) (exm : PySem.W.exmOne X.K (.ref C) (.ref C) = some true) :
    LamX.GivesTo X ["_law_ask", "fault"] "_law_refused" (defScope sLRefused) g cdg (defBody sLRefused) "_law_ask" q (TRef X.K C) := by
  intro f c' s H Q tl act hc h
  have cr1 : ∀ (a : Addr) (oe : Obj) (pn : List (Addr × Obj)), CallR (Cx.suite ((cxOf C8.CX0 X.prog X.w X.K X.mg X.base ["_law_ask", "fault"] "_law_refused" (defScope sLRefused) g cdg X.A X.stack s H C8.E0).nox) a ((a, oe) :: pn)) (.builtin "repr") (rReprS X.K) := fun a oe pn =>
    cr_reprS (X := Cx.suite ((cxOf C8.CX0 X.prog X.w X.K X.mg X.base ["_law_ask", "fault"] "_law_refused" (defScope sLRefused) g cdg X.A X.stack s H C8.E0).nox) a ((a, oe) :: pn)) (by show X.A.units + 3 + 64 < _; omega) hgd
  have cr2 : ∀ (a : Addr) (oe : Obj) (cls : Value) (d : Option Addr) (pn : List (Addr × Obj)), Zc cls d oe → (∃ vs, oe.data = .fields vs) → CallR (Cx.suite ((cxOf C8.CX0 X.prog X.w X.K X.mg X.base ["_law_ask", "fault"] "_law_refused" (defScope sLRefused) g cdg X.A X.stack s H C8.E0).nox) a ((a, oe) :: pn)) (.builtin "isinstance") (rIsD X.K cls d a) := fun a oe cls d pn hz hf => call_isD hz hf
  refine ⟨_, pss_cons (ps_try_as (X := (cxOf C8.CX0 X.prog X.w X.K X.mg X.base ["_law_ask", "fault"] "_law_refused" (defScope sLRefused) g cdg X.A X.stack s H C8.E0).nox) (c := .ref C) (i := 1) (Wout := fun _ _ _ _ => False)
      (tb := fun W D σ H => ∃ Ech : XK, (∀ cls d σ' H', Ech cls d H' → σ'.length = 2 → W cls d σ' H') ∧ σ[0]? = some (some (.ref f)) ∧ H c' = some (LamX.CodeO c' q) ∧ tl Ech H (fun _ H' => D.nx σ H'))
      rfl rfl (show (["_law_ask", "fault"] : List Str).Nodup by decide) rfl rfl ⟨rfl, by decide, .inl mC⟩ L2.takes0 (fun W pn xe tk _ => ?_)
      (fun a oe cls d pn hz hf => pss_one (ps_ret (pe_tup (pa_cons pe_str (pa_cons (pe_callB (cr1 a oe pn) (by rfl) G.repr boot_repr (pa_cons (pe_xf R.xf R.no hz hf (pv 1)) pa_nil)) (pa_cons (pe_callB (cr2 a oe cls d pn hz hf) (by rfl) G.isinstance boot_isinstance (pa_cons (pv 1) (pa_cons (pe_glob (v := .ref CF) (by rfl) mF rfl) pa_nil))) pa_nil)))))))
      (pss_one (ps_ret pe_non)), ?_⟩
  · refine ⟨fun pins s' σ H' D I h' => ?_⟩
    obtain ⟨Ech, hW, h1, h2, h3⟩ := h'
    exact (pss_one (ps_expr (act (fun cls d σ H => σ.length = 2 → W cls d σ H) pn xe Ech _ _ (takes_len rfl tk) fun cls d σ' H' e hl => hW cls d σ' H' e hl))).run pins s' σ H' D I ⟨h1, h2, h3⟩
  · refine ⟨_, fun cls d σ' H' he hl => ?_, rfl, hc, h⟩
    obtain ⟨dd, v, sv, rfl, rfl, hd, sh, kk⟩ := he
    refine ⟨true, exm, fun _ a ha => ?_, fun z => nomatch z⟩
    have s1 : (σ'.set 1 (some (V.ref a)))[1]? = some (some (.ref a)) := by rw [List.getElem?_set_self (by omega)]
    refine ⟨.ref a, s1, rfl, rfl, dd, _, v, rfl, hd, rfl, v, sv, rfl, sh, .ref a, s1, C, dd, .ref CF, .ref CF, true, _, rfl, rfl, R.ec, rfl, hd, fun u hu => hu, kit, by show 3 ≤ sizeLine; decide, fun p hp => kk p hp⟩
end
end K11
set_option Elab.async false
set_option linter.all false
set_option maxRecDepth 100000
set_option maxHeartbeats 4000000
/-! Pure defs of several statements. -/
namespace Pu
open PySem PySem.Spec PyProof.Rows L2
/-- from any heap over g the expression gives what R tells, and what stood stays -/
def EVR (P : Program) (w : World) (A : Around) (env : Env) (g : Heap) (e : Expr) (R : Value → Heap → Prop) : Prop :=
  ∀ (s : Shared) (Q : Value → Shared → Prop) (E : Value → Shared → Prop), Ext g s.heap →
    (∀ u h' tk, R u h' → Ext s.heap h' → Q u { s with heap := h', toks := tk }) → wpAny (model P w) A (eval e env) Q E s
/-- a test -/
def EVT (P : Program) (w : World) (A : Around) (env : Env) (g : Heap) (e : Expr) (b : Bool) : Prop :=
  ∀ (s : Shared) (whole : Sem Value) (Q : Bool → Shared → Prop) (E : Value → Shared → Prop), whole = eval e env → Ext g s.heap →
    (∀ h' tk, Ext s.heap h' → Q b { s with heap := h', toks := tk }) → wpAny (model P w) A (isTrue e env whole) Q E s
/-- what is known stays, whatever the locals' own object becomes -/
def St (env : Env) (W : Heap → Prop) : Prop := ∀ h h', W h → (∀ b o, b ≠ env.locals → h.get? b = some o → h'.get? b = some o) → W h'
/-- statements; m the locals; W what is known of the heap -/
def ES (P : Program) (w : World) (A : Around) (env : Env) (W : Heap → Prop) (m : Str → Option Value) (l : List Stmt) (R : Value → Heap → Prop) : Prop :=
  ∀ (s : Shared) (Q : Flow → Shared → Prop) (E : Value → Shared → Prop), W s.heap → s.heap.Ns env.locals m →
    (∀ u h' tk, R u h' → W h' → Q (.ret u) { s with heap := h', toks := tk }) → wpAny (model P w) A (execs l env) Q E s
/-- targets -/
def EU (P : Program) (w : World) (A : Around) (env : Env) (W : Heap → Prop) (m : Str → Option Value) (es : List Expr) (its : List Value) (m' : Str → Option Value) : Prop :=
  ∀ (s : Shared) (Q : Unit → Shared → Prop) (E : Value → Shared → Prop), W s.heap → s.heap.Ns env.locals m →
    (∀ h' tk, W h' → h'.Ns env.locals m' → Q () { s with heap := h', toks := tk }) → wpAny (model P w) A (assignInOrder ((assignEach es env).map (·.2)) its) Q E s
/-- m with x told -/
def put (m : Str → Option Value) (x : Str) (u : Value) : Str → Option Value := fun y => if y = x then some u else m y
theorem put_eq {m : Str → Option Value} {x : Str} {u : Value} : put m x u x = some u := if_pos rfl
theorem put_ne {m : Str → Option Value} {x y : Str} {u v : Value} (h : m y = some v) (n : y ≠ x) : put m x u y = some v := (if_neg n).trans h
section
variable {P : Program} {w : World} {K : PySem.W.Frag} {mg : Str → Option Value} {base : Heap} {A : Around} {env : Env} {g : Heap} {m : Str → Option Value} {R : Value → Heap → Prop} {W : Heap → Prop}
theorem EV.r {e : Expr} {v : V} (h : EV P w A env g e v) : EVR P w A env g e (fun u _ => RelV v u) := h
theorem et_val {e : Expr} {b : Bool} (h : EV P w A env g e (.bl b)) (he : ∀ whole, isTrue e env whole = (do let v ← whole; standAt e.pos; holding [v] (truthy v)) := by intro _; rfl) : EVT P w A env g e b := fun s whole Q E hw hx hQ => by
  subst hw
  refine wpAny_isTrue_value (h s _ E hx fun u h' tk r hk => ?_) (he _)
  cases (show u = Value.bool b from r)
  exact wpAny_truthy_bool (hQ h' tk hk)
theorem et_not {e : Expr} {pos : Pos} {b : Bool} (h : EVT P w A env g e b) : EVT P w A env g (.UnaryOp .Not e pos) (!b) := fun s whole Q E hw hx hQ =>
  wpAny_isTrue_Not (h s _ _ E rfl hx fun h' tk hk => hQ h' tk hk)
theorem et_or1 {e : Expr} {pos : Pos} {b : Bool} (h : EVT P w A env g e b) : EVT P w A env g (.BoolOp .Or [e] pos) b := fun s whole Q E hw hx hQ => by
  refine wpAny_isTrue_BoolOp (wpAny_allTrue_Or_cons (h s _ _ E rfl hx fun h' tk hk => ?_))
  cases b with
  | true => exact hQ h' tk hk
  | false => exact wpAny_allTrue_Or_nil (hQ h' tk hk)
theorem et_or {a b : Expr} {rest : List Expr} {pos : Pos} {x y : Bool} (ha : EVT P w A env g a x) (hb : x = false → EVT P w A env g (.BoolOp .Or (b :: rest) pos) y) : EVT P w A env g (.BoolOp .Or (a :: b :: rest) pos) (x || y) := fun s whole Q E hw hx hQ => by
  refine wpAny_isTrue_BoolOp (wpAny_allTrue_Or_cons (ha s _ _ E rfl hx fun h' tk hk => ?_))
  cases x with
  | true => exact hQ h' tk hk
  | false =>
    have := hb rfl { s with heap := h', toks := tk } (eval (.BoolOp .Or (b :: rest) pos) env) Q E rfl (fun b o e => hk b o (hx b o e)) fun h2 t2 k2 => hQ h2 t2 fun b o e => k2 b o (hk b o e)
    rw [arm_isTrue_BoolOp] at this
    exact this
theorem et_cmpI {op : CmpOp} {a b : Expr} {pos : Pos} {i j : Int} {r : Bool} (ha : EV P w A env g a (.int i)) (hb : EV P w A env g b (.int j))
    (hc : ∀ (s : Shared) (t t' : Nat) (Q : Value → Shared → Prop) (E : Value → Shared → Prop), Q (.bool r) s → wpAny (model P w) A (compareOp op (.int i t) (.int j t')) Q E s)
    (hm : behindInMarks op b = false := by first | exact nobehind _ (by decide) (by decide) | rfl) : EVT P w A env g (.Compare a [op] [b] pos) r := fun s whole Q E hw hx hQ => by
  refine wpAny_isTrue_Compare1 (ha s _ E hx fun u h' tk ru hk => ?_) hm
  refine hb { s with heap := h', toks := tk } _ E (fun b o e => hk b o (hx b o e)) fun u2 h2 t2 r2 k2 => ?_
  obtain ⟨t, rfl⟩ := ru
  obtain ⟨t', rfl⟩ := r2
  exact hc _ _ _ _ _ (wpAny_truthy_bool (hQ h2 t2 fun b o e => k2 b o (hk b o e)))
theorem St.ex (S : St env W) {h h' : Heap} (x : W h) (k : Ext h h') : W h' := S h h' x fun b o _ e => k b o e
theorem St.over (hL : g.get? env.locals = none) : St env (fun h => Ext g h) := fun h h' x k b o e => k b o (fun z => by rw [z, hL] at e; cases e) (x b o e)
theorem St.and {V : Heap → Prop} (S : St env W) (T : St env V) : St env (fun h => W h ∧ V h) := fun h h' x k => ⟨S h h' x.1 k, T h h' x.2 k⟩
theorem es_ret {e : Expr} {pos : Pos} (S : St env W) (h : ∀ h1, W h1 → h1.Ns env.locals m → EVR P w A env h1 e R) : ES P w A env W m [.Return (some e) pos] R := fun s Q E hx hn hQ =>
  wpAny_execs_cons (wpAny_Return_some (h s.heap hx hn s _ E (fun _ _ e => e) fun u h' tk r k => hQ u h' tk r (S.ex hx k)))
theorem es_if {test : Expr} {body rest : List Stmt} {pos : Pos} {b : Bool} (S : St env W) (ht : ∀ h1, W h1 → h1.Ns env.locals m → EVT P w A env h1 test b) (hY : b = true → ES P w A env W m body R) (hn : b = false → ES P w A env W m rest R) :
    ES P w A env W m (.If test body [] pos :: rest) R := fun s Q E hx hns hQ => by
  refine wpAny_execs_cons (wpAny_If (ht s.heap hx hns s _ _ E rfl (fun _ _ e => e) fun h' tk hk => ?_))
  have hn2 := hns.keeps hk
  cases b with
  | true => exact hY rfl { s with heap := h', toks := tk } _ E (S.ex hx hk) hn2 fun u h2 t2 r k => hQ u h2 t2 r k
  | false => exact wpAny_execs_nil (hn rfl { s with heap := h', toks := tk } Q E (S.ex hx hk) hn2 fun u h2 t2 r k => hQ u h2 t2 r k)
theorem es_set {x : Str} {e : Expr} {p pos : Pos} {rest : List Stmt} {R1 : Value → Heap → Prop} (S : St env W) (hl : env.kindOf x = some .local) (hk : env.scope.kind = .function)
    (he : ∀ h1, W h1 → h1.Ns env.locals m → EVR P w A env h1 e R1) (hR : ∀ u, St env (R1 u)) (hm : ∀ u, ES P w A env (fun h => W h ∧ R1 u h) (put m x u) rest R)
    (hsw : swapsWith e (some (.Name x p)) pos.line env = pure false := by rfl) : ES P w A env W m (.Assign [.Name x p] e pos :: rest) R := fun s Q E hx hn hQ => by
  refine wpAny_execs_cons (wpAny_Assign_Name (he s.heap hx hn s _ E (fun _ _ e => e) fun u h' tk r hk2 => ?_) hsw)
  refine wpAny_storeName_local hl (hn.keeps hk2) (fun h3 ns3 same => ?_) (by rw [hk]; rfl)
  have st : ∀ b o, b ≠ env.locals → h'.get? b = some o → h3.get? b = some o := fun b o hb e => same.extBut b o hb e
  exact hm u { s with heap := h3, toks := tk + 1 } Q E ⟨S _ _ (S.ex hx hk2) st, hR u _ _ r st⟩ ns3 fun u h2 t2 r k => hQ u h2 t2 r k.1
theorem eu_nil : EU P w A env W m [] [] m := fun s Q E hx hn hQ => wpAny_assignInOrder_none (hQ s.heap s.toks hx hn)
theorem eu_cons {x : Str} {p : Pos} {es : List Expr} {u : Value} {its : List Value} {m' : Str → Option Value} (S : St env W) (hl : env.kindOf x = some .local) (hk : env.scope.kind = .function)
    (h : EU P w A env W (put m x u) es its m') (he : (assignEach (.Name x p :: es) env).map (·.2) = assign (.Name x p) env :: (assignEach es env).map (·.2) := by rfl) : EU P w A env W m (.Name x p :: es) (u :: its) m' := fun s Q E hx hn hQ => by
  rw [he]
  refine wpAny_assignInOrder_more (wpAny_assign_Name (wpAny_storeName_local hl hn (fun h' ns' same => ?_) (by rw [hk]; rfl)))
  exact h { s with heap := h', toks := s.toks + 1 } Q E (S _ _ hx fun b o hb e => same.extBut b o hb e) ns' fun h2 t2 k n => hQ h2 t2 k n
theorem es_unpack {val : Expr} {es : List Expr} {k : Nat} {p pos : Pos} {rest : List Stmt} {a : Addr} {b : Bool} {its : List Value} {m' : Str → Option Value} (S : St env W) (hd : A.handled = none)
    (hv : ∀ h1, W h1 → h1.Ns env.locals m → EV P w A env h1 val (.ref a)) (hq : ∀ h1, W h1 → SeqG h1 b a its) (hu : EU P w A env W m es its m') (hr : ES P w A env W m' rest R)
    (hn : (assignEach es env).length = its.toArray.size) (hst : (assignEach es env).findIdx? (·.1) = none := by rfl)
    (hs : swapsWithSole [.Tuple es k p] val pos.line env = pure false := by rfl) (hw : swappedStores [.Tuple es k p] val env = pure none := by rfl)
    (h1 : (assignEach [.Tuple es k p] env).map (·.2) = [assign (.Tuple es k p) env] := by rfl) : ES P w A env W m (.Assign [.Tuple es k p] val pos :: rest) R := fun s Q E hx hns hQ => by
  refine wpAny_execs_cons (wpAny_Assign_stores (hv s.heap hx hns s _ E (fun _ _ e => e) fun u h' tk r hk => ?_) hs hw)
  cases (show u = Value.ref a from r)
  rw [h1]
  have main : wpAny (model P w) A (assign (.Tuple es k p) env (.ref a)) (fun _ s3 => wpAny (model P w) A (execs rest env) Q E s3) E { s with heap := h', toks := tk } := by
    have after : ∀ h3, Heap.ExtBut h'.objs.size h' h3 → wpAny (model P w) A (assignInOrder ((assignEach es env).map (·.2)) its.toArray.toList) (fun _ s3 => wpAny (model P w) A (execs rest env) Q E s3) E { s with heap := h3, toks := tk } := fun h3 hx3 => by
      have k3 : Ext h' h3 := fun b o e => hx3 b o (Nat.ne_of_lt (Heap.lt_size e)) e
      refine hu { s with heap := h3, toks := tk } _ E (S.ex (S.ex hx hk) k3) ((hns.keeps hk).keeps k3) fun h4 t4 k4 n4 => ?_
      exact hr { s with heap := h4, toks := t4 } Q E k4 n4 fun u h2 t2 r k => hQ u h2 t2 r k
    have hq' := hq h' (S.ex hx hk)
    cases b with
    | true =>
      have t : IsTup h' a its.toArray := hq'.2
      exact wpAny_assign_Tuple (s := { s with heap := h', toks := tk }) hd t hn hst after
    | false =>
      have t : PlainL h' a its.toArray := hq'.2
      rw [PyProof.Rows.assign_Tuple]
      refine wpAny_bind (wpAny_standAt ?_)
      unfold unpack
      rw [hn, hst]
      exact wpAny_bind (wpAny_holding (PySem.W.kun_itemsOf hd t.isList after))
  exact main
/-- a pure def: what it gives is told by a relation -/
structure PFR (P : Program) (w : World) (K : PySem.W.Frag) (mg : Str → Option Value) (base : Heap) (k : Nat) (f : Addr) (fd : FuncData) (ps : List Str) (sp : List V → Heap → (Value → Heap → Prop) → Prop) : Prop where
  run : ∀ (A : Around) (s : Shared) (args : Args) (us : List Value) (vs : List V) (S : Value → Heap → Prop) (R : Result → Shared → Prop), Room k A → Ext base s.heap → BindsTo s fd args (ps.zip us) → Vals vs us → vs.length = ps.length → sp vs s.heap S →
    (∀ u h' tk, S u h' → Ext s.heap h' → R (.ok (.ret u)) { s with heap := h', toks := tk }) → codeAny (model P w) A (.call (.ref f) args) R s
theorem PFR.pf {k : Nat} {f : Addr} {fd : FuncData} {ps : List Str} {sp : List V → Heap → V → Prop} (F : PFR P w K mg base k f fd ps fun vs h S => ∃ v, sp vs h v ∧ S = fun u _ => RelV v u) : PF P w K mg base k f fd ps sp :=
  ⟨fun A s args us vs v R hr hb hbi hv hl hs hR => F.run A s args us vs _ R hr hb hbi hv hl ⟨v, hs, rfl⟩ hR⟩
/-- a pure def of the text, of several statements -/
theorem pf_body {x qual : Str} {st : Stmt} {f : Addr} {fd : FuncData} {N ps : List Str} {k : Nat} {sp : List V → Heap → (Value → Heap → Prop) → Prop} (M : L2.Mod K mg base) (Fn : Fun K x qual st f fd) (S : FnScope N ps (defScope st))
    (hloc : ∀ y ∈ ps, (defScope st).names.lookup y = some .local)
    (hbody : ∀ (cdv : Value) (A : Around) (L : Addr) (g : Heap) (us : List Value) (vs : List V) (T : Value → Heap → Prop) (m : Str → Option Value), Room k A → Ext base g → Vals vs us → vs.length = ps.length → sp vs g T → g.get? L = none →
      (∀ (i : Nat) (y : Str) (u : Value), ps[i]? = some y → us[i]? = some u → m y = some u) → ES P w A (envOfC qual (defScope st) L f cdv) (fun h => Ext g h) m (defBody st) T) : PFR P w K mg base (k + 1) f fd ps sp := by
  obtain ⟨oc, od, kV, doc, pm, an, cdv, ct, osl, rfl, lk, hcd⟩ := Fn.ex
  refine ⟨fun A s args us vs T R hr hbs hb r hl hsp hR => ?_⟩
  have KX : K.In s.heap := M.kin.keeps hbs
  have lim : s.heap.NoLimit := M.nolimit.keeps hbs
  have ndP : ps.Nodup := by rw [← S.pre]; exact S.nd.sublist (List.take_sublist _ _)
  refine codeAny_call_function hr.depth (KX _ _ lk) rfl S.co S.gen rfl (PySem.W.codeRec_of KX hcd) (hb _ _ _ _ ?_)
  refine wpAny_newFunctionEnv_cells S.kind (fun ⟨n, z⟩ hy => .inl (hloc n (List.of_mem_zip hy).1)) fun env he s1 X => ?_
  subst he
  obtain ⟨h1, tk, e1, hk1⟩ := X.done
  refine ⟨lim.keeps X.toInCall.keep, codeAny_func ?_⟩
  have hns := X.toInCall.ns
  subst e1
  have fresh : s.heap.get? s.heap.objs.size = none := by
    cases z : s.heap.get? s.heap.objs.size with
    | none => rfl
    | some o => exact absurd (Heap.lt_size z) (Nat.lt_irrefl _)
  refine hbody cdv _ s.heap.objs.size s.heap us vs T _ (hr.deeper _) hbs r hl hsp fresh (fun i y u h2 h3 => bindL_get ndP h2 h3 (hloc y (List.mem_of_getElem? h2))) _ _ _ hk1 hns fun u h' t' rv k' => ?_
  exact hR u h' t' rv k'
end
end Pu
set_option Elab.async false
set_option linter.all false
set_option maxRecDepth 100000
set_option maxHeartbeats 4000000
/-! Pure expressions, more of them. -/
namespace Pu
open PySem PySem.Spec PyProof.Rows L2
section
variable {P : Program} {w : World} {K : PySem.W.Frag} {mg : Str → Option Value} {base : Heap} {A : Around} {env : Env} {g : Heap}
/-- a name of the module -/
theorem ev_gc {x : Str} {pos : Pos} {u : Value} {v : V} (F : FrP K mg base A env g) (hg : env.kindOf x = some .globalImplicit) (hm : mg x = some u) (r : RelV v u) (hd : (x == ("__debug__" : Str)) = false := by decide) : EV P w A env g (.Name x pos) v := fun s Q E hx hQ => by
  have hbs : Ext base s.heap := fun b o e => hx b o (F.ext b o e)
  exact Calls.Name_function_global F.kind hg (Calls.loadGlobal_global (by rw [F.glob]; exact F.mod.glob.keeps hbs) hm (hQ u s.heap s.toks r fun _ _ e => e)) hd
theorem ev_neg {a : Expr} {pos : Pos} {i : Int} (ha : EV P w A env g a (.int i)) : EV P w A env g (.UnaryOp .USub a pos) (.int (-i)) := fun s Q E hx hQ => by
  refine UnaryOp_ (ha s _ E hx fun u h' tk r hk => ?_)
  obtain ⟨t, rfl⟩ := r
  exact neg_int (hQ _ h' _ ⟨_, rfl⟩ hk)
theorem ev_bin {op : Operator} {a b : Expr} {pos : Pos} {i j k : Int} (ha : EV P w A env g a (.int i)) (hb : EV P w A env g b (.int j))
    (hc : ∀ (s : Shared) (t t' : Nat) (Q : Value → Shared → Prop) (E : Value → Shared → Prop), (Q (.int k s.toks) { s with toks := s.toks + 1 }) → wpAny (model P w) A (binaryOp op (.int i t) (.int j t')) Q E s) : EV P w A env g (.BinOp a op b pos) (.int k) := fun s Q E hx hQ => by
  refine wpAny_BinOp (ha s _ E hx fun u h' tk ru hk => ?_)
  refine hb { s with heap := h', toks := tk } _ E (fun b o e => hk b o (hx b o e)) fun u2 h2 t2 r2 k2 => ?_
  obtain ⟨t, rfl⟩ := ru
  obtain ⟨t', rfl⟩ := r2
  exact hc _ _ _ _ _ (hQ _ h2 _ ⟨_, rfl⟩ fun b o e => k2 b o (hk b o e))
theorem ev_add {a b : Expr} {pos : Pos} {i j : Int} (ha : EV P w A env g a (.int i)) (hb : EV P w A env g b (.int j)) : EV P w A env g (.BinOp a .Add b pos) (.int (i + j)) := ev_bin ha hb fun _ _ _ _ _ q => add_int q
theorem ev_sub {a b : Expr} {pos : Pos} {i j : Int} (ha : EV P w A env g a (.int i)) (hb : EV P w A env g b (.int j)) : EV P w A env g (.BinOp a .Sub b pos) (.int (i - j)) := ev_bin ha hb fun _ _ _ _ _ q => sub_int q
theorem ev_mul {a b : Expr} {pos : Pos} {i j : Int} (hm : IntMulOk i j) (ha : EV P w A env g a (.int i)) (hb : EV P w A env g b (.int j)) : EV P w A env g (.BinOp a .Mult b pos) (.int (i * j)) := ev_bin ha hb fun _ _ _ _ _ q => mul_int q hm
theorem ev_and_ {a b : Expr} {pos : Pos} {i j : Int} (ha : EV P w A env g a (.int i)) (hb : EV P w A env g b (.int j)) : EV P w A env g (.BinOp a .BitAnd b pos) (.int (Builtin.bitAnd i j)) := ev_bin ha hb fun _ _ _ _ _ q => and_int q
theorem ev_gt {a b : Expr} {pos : Pos} {i j : Int} (ha : EV P w A env g a (.int i)) (hb : EV P w A env g b (.int j)) (hm : behindInMarks .Gt b = false := by first | exact nobehind _ (by decide) (by decide) | rfl) :
    EV P w A env g (.Compare a [.Gt] [b] pos) (.bl (decide (i > j))) := fun s Q E hx hQ => by
  refine wpAny_Compare1 (ha s _ E hx fun u h' tk r hk => ?_) hm
  refine hb { s with heap := h', toks := tk } _ E (fun b o e => hk b o (hx b o e)) fun u2 h2 t2 r2 k2 => ?_
  obtain ⟨t, rfl⟩ := r
  obtain ⟨t', rfl⟩ := r2
  exact gt_int (hQ _ h2 t2 rfl fun b o e => k2 b o (hk b o e))
/-- i <= j <= k -/
theorem ev_chain {a b c : Expr} {pos : Pos} {i j k : Int} (ha : EV P w A env g a (.int i)) (hb : EV P w A env g b (.int j)) (hc : EV P w A env g c (.int k))
    (hm : lastMarks [CmpOp.LtE, .LtE] [b, c] = false := by with_unfolding_all rfl) : EV P w A env g (.Compare a [.LtE, .LtE] [b, c] pos) (.bl (decide (i ≤ j) && decide (j ≤ k))) := fun s Q E hx hQ => by
  refine Compare_chain (ha s _ E hx fun u h' tk r hk => chain_link (hb { s with heap := h', toks := tk } _ E (fun b o e => hk b o (hx b o e)) fun u2 h2 t2 r2 k2 => ?_)) hm
  obtain ⟨t, rfl⟩ := r
  obtain ⟨t', rfl⟩ := r2
  refine le_int (wpAny_truthy_bool ?_)
  have k3 : Ext s.heap h2 := fun b o e => k2 b o (hk b o e)
  cases hd : decide (i ≤ j) with
  | false =>
    rw [hd] at hQ
    exact ite_ff (hQ _ h2 t2 rfl k3)
  | true =>
    rw [hd] at hQ
    refine ite_tt (chain_last (hc { s with heap := h2, toks := t2 } _ E (fun b o e => k3 b o (hx b o e)) fun u4 h4 t4 r4 k4 => ?_))
    obtain ⟨t5, rfl⟩ := r4
    exact le_int (hQ _ h4 t4 rfl fun b o e => k4 b o (k3 b o e))
/-- x if c else y, told by a relation -/
theorem er_if {t a b : Expr} {pos : Pos} {c : Bool} {R : Value → Heap → Prop} (ht : EVT P w A env g t c) (ha : c = true → EVR P w A env g a R) (hb : c = false → EVR P w A env g b R) : EVR P w A env g (.IfExp t a b pos) R := fun s Q E hx hQ => by
  refine wpAny_IfExp (ht s _ _ E rfl hx fun h' tk hk => ?_)
  cases c with
  | true => exact ite_tt (ha rfl { s with heap := h', toks := tk } Q E (fun b o e => hk b o (hx b o e)) fun u h2 t2 r k => hQ u h2 t2 r fun b o e => k b o (hk b o e))
  | false => exact ite_ff (hb rfl { s with heap := h', toks := tk } Q E (fun b o e => hk b o (hx b o e)) fun u h2 t2 r k => hQ u h2 t2 r fun b o e => k b o (hk b o e))
theorem EVR.imp {e : Expr} {R S : Value → Heap → Prop} (h : EVR P w A env g e R) (k : ∀ u h, R u h → S u h) : EVR P w A env g e S := fun s Q E hx hQ => h s Q E hx fun u h' tk r => hQ u h' tk (k u h' r)
/-- a tuple laid anew -/
def TupR (vs : List V) (u : Value) (h : Heap) : Prop := ∃ a us, u = .ref a ∧ Vals vs us ∧ SeqG h true a us
theorem er_tup {es : List Expr} {k : Nat} {pos : Pos} {vs : List V} (ha : EA P w A env g es vs) (hl : vs.length ≤ 1000) : EVR P w A env g (.Tuple es k pos) (TupR vs) := fun s Q E hx hQ => by
  refine wpAny_Tuple_spliced (ha pos s _ E hx fun us h' tk r hk => ⟨?_, ?_⟩)
  · rw [← r.length]
    exact Nat.le_trans hl (by decide)
  · refine hQ _ (h'.push { cls := .type "tuple", data := .seq us.toArray }) tk ⟨_, us, rfl, r, ?_, ?_⟩ fun b o e => Heap.get?_push_of_some _ (hk b o e)
    · rw [← r.length]
      exact Nat.le_trans hl (by decide)
    · exact ⟨_, Heap.get?_push_size _ rfl, rfl, _, rfl⟩
/-- sum(x) of a tuple of whole numbers -/
theorem sum_tup {s : Shared} {a : Addr} {us : List Value} {val : Nat → Int} {Q : Value → Shared → Prop} {E : Value → Shared → Prop} (hh : A.handled = none) (p : IsTup s.heap a us.toArray) (hi : ∀ (i : Nat) (v : Value), us[i]? = some v → ∃ t, v = Value.int (val i) t)
    (h : ∀ h' tk t', Ext s.heap h' → Q (.int (preSum val us.length) t') { s with heap := h', toks := tk }) : wpAny (model P w) A (call (.builtin "sum") [.ref a]) Q E s := by
  have lt : a < s.heap.objs.size := p.lt
  have hne : a ≠ s.heap.objs.size := Nat.ne_of_lt lt
  refine call_sum_walkG (wpAny_pyIter_tuple (show s.heap.IsTuple a us.toArray from p) ?_)
  refine ⟨_, _, _, _, _, _, val, rfl, Walks.tuple (show A.in1.handled = none from hh) s.heap.objs.size a hne us.toArray, ⟨⟨_, Heap.get?_push_size _ rfl, rfl, rfl⟩, ?_⟩, ?_, fun i v e => hi i v (by simpa using e), fun h' tk t' hk => ?_⟩
  · obtain ⟨o, ho, r⟩ := p
    exact ⟨o, Heap.get?_push_of_some _ ho, r⟩
  · intro b hb
    rw [Heap.size_push]
    rcases List.mem_cons.mp hb with z | z
    · rw [z]; exact Nat.lt_succ_self _
    · rcases List.mem_cons.mp z with z | z
      · rw [z]; exact Nat.lt_succ_of_lt lt
      · cases z
  · have := h h' tk t' fun b o e => hk b o (fun z => Nat.ne_of_lt (Heap.lt_size e) (List.mem_singleton.mp z)) (Heap.get?_push_of_some _ e)
    simpa using this
end
end Pu
set_option Elab.async false
set_option linter.all false
set_option maxRecDepth 100000
set_option maxHeartbeats 4000000
namespace Pu
open PySem PySem.Spec PyProof.Rows L2
/-- arguments, told by a relation -/
def EAR (P : Program) (w : World) (A : Around) (env : Env) (g : Heap) (es : List Expr) (R : List Value → Heap → Prop) : Prop :=
  ∀ (pos : Pos) (s : Shared) (Q : List Value → Shared → Prop) (E : Value → Shared → Prop), Ext g s.heap →
    (∀ us h' tk, R us h' → Ext s.heap h' → Q us { s with heap := h', toks := tk }) → wpAny (model P w) A (spliced (backTo pos (starEach es env))) Q E s
section
variable {P : Program} {w : World} {K : PySem.W.Frag} {mg : Str → Option Value} {base : Heap} {A : Around} {env : Env} {g : Heap}
theorem EV.to {e : Expr} {v v' : V} (h : EV P w A env g e v) (z : v = v') : EV P w A env g e v' := z ▸ h
theorem ar_last {e : Expr} {R : Value → Heap → Prop} (ha : EVR P w A env g e R) (hs : starEach [e] env = (false, eval e env) :: starEach [] env := by rfl) : EAR P w A env g [e] (fun us h => ∃ u, us = [u] ∧ R u h) := fun pos s Q E hx hQ => by
  rw [hs]
  show wpAny _ _ (spliced ((false, eval e env) :: backTo pos (starEach [] env))) _ _ s
  exact Calls.spliced_cons (ha s _ E hx fun u h' tk r hk => Calls.spliced_nil (hQ [u] h' tk ⟨u, rfl, r⟩ hk))
theorem ar_ea {es : List Expr} {vs : List V} (h : EA P w A env g es vs) : EAR P w A env g es (fun us _ => Vals vs us) := h
theorem ar_cons {e : Expr} {es : List Expr} {v : V} {R : List Value → Heap → Prop} (ha : EV P w A env g e v) (hr : EAR P w A env g es R) (hs : starEach (e :: es) env = (false, eval e env) :: starEach es env := by rfl) :
    EAR P w A env g (e :: es) (fun us h => ∃ u us', us = u :: us' ∧ RelV v u ∧ R us' h) := fun pos s Q E hx hQ => by
  rw [hs]
  show wpAny _ _ (spliced ((false, eval e env) :: backTo pos (starEach es env))) _ _ s
  refine Calls.spliced_cons (ha s _ E hx fun u h' tk r hk => ?_)
  exact hr pos { s with heap := h', toks := tk } _ E (fun b o e => hk b o (hx b o e)) fun us h2 t2 r2 k2 => hQ (u :: us) h2 t2 ⟨u, us, rfl, r, r2⟩ fun b o e => k2 b o (hk b o e)
/-- a pure def by its name, its answer told by a relation -/
theorem er_pf {k : Nat} {f : Addr} {fd : FuncData} {ps : List Str} {sp : List V → Heap → (Value → Heap → Prop) → Prop} {x : Str} {p pos : Pos} {e : Expr} {es : List Expr} {RA : List Value → Heap → Prop} {S : Value → Heap → Prop} (F : FrP K mg base A env g) (G : PFR P w K mg base k f fd ps sp) (hr : Room k A)
    (hg : env.kindOf x = some .globalImplicit) (hm : mg x = some (.ref f)) (hk : PySem.W.keepIn K (.ref f) = true) (hb : Binds K fd ps []) (ha : EAR P w A env g (e :: es) RA)
    (hsp : ∀ us h, Ext g h → RA us h → ∃ vs, Vals vs us ∧ vs.length = ps.length ∧ sp vs h S) (hd : (x == ("__debug__" : Str)) = false := by decide)
    (he : starEach (e :: es) env = (false, eval e env) :: starEach es env := by rfl) (hpl : (backTo pos (starEach es env)).any (·.1) = false := by rfl) : EVR P w A env g (.Call (.Name x p) (e :: es) [] pos) S := fun s Q E hx hQ => by
  have hbs : Ext base s.heap := fun b o e => hx b o (F.ext b o e)
  refine wpAny_Call_Name_kw (Calls.Name_function_global F.kind hg (Calls.loadGlobal_global (by rw [F.glob]; exact F.mod.glob.keeps hbs) hm ?_) hd)
  refine PySem.W.callWith_K (h₀ := base) F.mod.kin hk (ha pos s _ E hx fun us h' tk r hk2 => ?_) he hpl
  have hx2 : Ext g h' := fun b o e => hk2 b o (hx b o e)
  have hb2 : Ext base h' := fun b o e => hx2 b o (F.ext b o e)
  obtain ⟨vs, rv, hl, hs⟩ := hsp us h' hx2 r
  refine ⟨F.mod.kin.keeps hb2, ?_⟩
  show wpAny _ _ (call (.ref f) us) _ _ _
  have hlu : (us ++ []).length = ps.length := by rw [List.append_nil, ← rv.length]; exact hl
  have hbind := hb { s with heap := h', toks := tk } us (F.mod.kin.keeps hb2) hlu
  rw [List.append_nil] at hbind
  refine wpAny_call (codeAny_mono (G.run A { s with heap := h', toks := tk } ⟨us, []⟩ us vs S (fun r s' => ∃ u h2 t2, r = .ok (.ret u) ∧ S u h2 ∧ Ext h' h2 ∧ s' = { s with heap := h2, toks := t2 }) hr hb2 hbind rv hl hs fun u h2 t2 r2 k2 => ⟨u, h2, t2, rfl, r2, k2, rfl⟩) fun r s' hq => ?_)
  obtain ⟨u, h2, t2, rfl, r2, k2, rfl⟩ := hq
  exact hQ u h2 t2 r2 fun b o e => k2 b o (hk2 b o e)
end
end Pu
namespace Pu
open PySem PySem.Spec PyProof.Rows L2
section
variable {P : Program} {w : World} {K : PySem.W.Frag} {mg : Str → Option Value} {base : Heap} {A : Around} {env : Env} {g : Heap}
theorem ev_bl {b : Bool} {k : Nat} {pos : Pos} : EV P w A env g (.Constant (.bool b) k pos) (.bl b) := fun s Q E hx hQ => wpAny_Constant_bool (hQ _ s.heap s.toks rfl fun _ _ e => e)
/-- x is not None, x a tuple or a list -/
theorem ev_isNot {e : Expr} {pos p2 : Pos} {k : Nat} {a : Addr} (he : EV P w A env g e (.ref a)) : EV P w A env g (.Compare e [.IsNot] [.Constant .none k p2] pos) (.bl true) := fun s Q E hx hQ => by
  refine wpAny_Compare1 (he s _ E hx fun u h' tk r hk => wpAny_Constant_none ?_) (nobehind _ (by decide) (by decide))
  cases (show u = Value.ref a from r)
  exact wpAny_isNot_other rfl (fun z => nomatch z) (hQ _ h' tk rfl hk)
/-- name = value, what is known of the value sharpened by where the locals stand -/
theorem es_set2 {m : Str → Option Value} {R : Value → Heap → Prop} {W : Heap → Prop} {x : Str} {e : Expr} {p pos : Pos} {rest : List Stmt} {R1 R2 : Value → Heap → Prop} (S : St env W) (hl : env.kindOf x = some .local) (hk : env.scope.kind = .function)
    (he : ∀ h1, W h1 → h1.Ns env.locals m → EVR P w A env h1 e R1) (h2 : ∀ u h m', R1 u h → h.Ns env.locals m' → R2 u h) (hR : ∀ u, St env (R2 u)) (hm : ∀ u, ES P w A env (fun h => W h ∧ R2 u h) (put m x u) rest R)
    (hsw : swapsWith e (some (.Name x p)) pos.line env = pure false := by rfl) : ES P w A env W m (.Assign [.Name x p] e pos :: rest) R := fun s Q E hx hn hQ => by
  refine wpAny_execs_cons (wpAny_Assign_Name (he s.heap hx hn s _ E (fun _ _ e => e) fun u h' tk r hk2 => ?_) hsw)
  have r2 := h2 u h' m r (hn.keeps hk2)
  refine wpAny_storeName_local hl (hn.keeps hk2) (fun h3 ns3 same => ?_) (by rw [hk]; rfl)
  have st : ∀ b o, b ≠ env.locals → h'.get? b = some o → h3.get? b = some o := fun b o hb e => same.extBut b o hb e
  exact hm u { s with heap := h3, toks := tk + 1 } Q E ⟨S _ _ (S.ex hx hk2) st, hR u _ _ r2 st⟩ ns3 fun u h2 t2 r k => hQ u h2 t2 r k.1
/-- a tuple that stands elsewhere than the locals -/
def TupN (L : Addr) (vs : List V) (u : Value) (h : Heap) : Prop := ∃ a us, u = .ref a ∧ a ≠ L ∧ Vals vs us ∧ SeqG h true a us
theorem TupR.n {vs : List V} {u : Value} {h : Heap} {L : Addr} {m : Str → Option Value} (x : TupR vs u h) (n : h.Ns L m) : TupN L vs u h := by
  obtain ⟨a, us, rfl, v, sq⟩ := x
  refine ⟨a, us, rfl, fun z => ?_, v, sq⟩
  obtain ⟨o, ho, q1, n1, q2⟩ := (show IsTup h a us.toArray from sq.2)
  subst z
  obtain ⟨o', es, ep, ho', hd', _⟩ := n
  rw [ho] at ho'
  cases ho'
  rw [q2] at hd'
  cases hd'
theorem TupN.st {vs : List V} {u : Value} : St env (TupN env.locals vs u) := fun h h' x k => by
  obtain ⟨a, us, rfl, na, v, sq⟩ := x
  obtain ⟨o, ho, r⟩ := (show IsTup h a us.toArray from sq.2)
  exact ⟨a, us, rfl, na, v, sq.1, o, k _ _ na ho, r⟩
end
end Pu
set_option Elab.async false
set_option linter.all false
set_option maxRecDepth 100000
set_option maxHeartbeats 4000000
/-! all(f(x, y) for x in e), y a name of the def that asks. -/
namespace Pu
open PySem PySem.Spec PyProof.Rows L2 GxR
section
variable {X : Cx} {pins : List (Addr × Obj)} {σ : L2.St} {H : Hp} {s : Shared}
/-- the def's names that the generator reads -/
def Cap (X : Cx) (σ : L2.St) (sc : Scope) (cenv : Env) (g : Heap) : Prop := ∀ (j : Nat) (y : Str) (v : V), X.N[j]? = some y → σ[j]? = some (some v) → X.env.scope.names.lookup y = some .cell → sc.names.lookup y = some .free →
  ∃ u c, RelV v u ∧ cenv.cells.lookup y = some c ∧ g.IsCell c (some u)
/-- the element's worth, item by item, from any frame of the generator -/
def EltC (X : Cx) (σ : L2.St) (T : Addr) (sc : Scope) (x : Str) (elt : Expr) (k : Nat) (H1 : Hp) (xs : List V) (pb : Nat → Bool) : Prop :=
  ∀ (B : Around) (cenv : Env) (g : Heap) (i : Nat) (v : V) (u : Value), Room k B → cenv.scope = sc → cenv.globals = mainGlobals → cenv.builtins = builtinsNs → Ext X.base g →
    (∃ m, g.Ns cenv.locals m ∧ m x = some u) → xs[i]? = some v → RelV v u → (∀ b ho, b ≠ T → H1 b = some ho → ObjOk X.prog X.w H1 g b ho) → Cap X σ sc cenv g → EV X.prog X.w B cenv g elt (.bl (pb i))
theorem gen_cap {c T : Addr} {elt iter : Expr} {x : Str} {px gp : Pos} {sc : Scope} {te : TE} {k : Nat} {W : Value → Shared → Prop} {R : Hp → List V → (Nat → Bool) → Prop}
    (hr : Room (k + 1) X.A) (TB : TabB X.base X.mg c T) (hcode : X.env.code = .ref c) (S : GenS X.env sc x) (hi : PE X iter te) (hs : ∀ v, genFold iter X.env v = pure v) (I : Inv X pins σ H s)
    (h : te σ H fun v H1 => ∃ (a : Addr) (xs : List V) (pb : Nat → Bool), v = .ref a ∧ (SqT X.K H1 a xs ∨ SqL X.K H1 a xs) ∧ TabG H1 T ∧ EltC X σ T sc x elt k H1 xs pb ∧ R H1 xs pb)
    (hQ : ∀ H1 xs pb g s5, R H1 xs pb → Drawn X pins σ H1 T xs.length pb g s5 → W (.ref g) s5) :
    wpAny (model X.prog X.w) X.A (eval (.GeneratorExp elt [⟨.Name x px, iter, [], 0⟩] sc gp) X.env) W X.xe s := by
  refine wpAny_GeneratorExp_walksQD hr.hd S.co (closure_ok S.free) S.cell S.dot S.loc S.kind (by have := hr.dp; omega) ?_ hs
  refine thn (hi.run pins s σ H _ I h) fun xv s1 ⟨v, H1, I1, r1, q1⟩ => ?_
  obtain ⟨a, xs, pb, rfl, hsq, ⟨ps, hT, ht⟩, hel, hR⟩ := q1
  cases (show xv = Value.ref a from r1)
  refine iter_any I1 hsq fun o its St rv haLt Wk hst => ?_
  have hTs : s1.heap.get? T = some { cls := .none, data := .fields ps } := I1.hok T _ hT
  have hTlt : T < s1.heap.objs.size := Heap.lt_size hTs
  have hT2 : (s1.heap.push o).get? T = some { cls := .none, data := .fields ps } := Heap.get?_push_of_some _ hTs
  have push_keep : ∀ b u, s1.heap.get? b = some u → (s1.heap.push o).get? b = some u := fun b u e => Heap.get?_push_of_some _ e
  have cd : PySem.W.CodeHd (s1.heap.push o) c T := TB.code.keeps fun b u e => push_keep b u (I1.bk b u e)
  have lim2 : (s1.heap.push o).NoLimit := I1.nolimit.push o
  have noT : ∀ b u, X.base.get? b = some u → b ≠ T := fun b u e z => by
    have n := (I1.bs b u e).2
    rw [z, hT] at n
    cases n
  have hlen : its.toArray.size = xs.length := by rw [List.size_toArray, rv.length]
  refine ⟨lim2, code_any hcode (cd.code hT2 ht) (cd.tab hT2) ht hT2 fun code h3 tk ps' hx hsz hT3 hmore ht3 => ?_⟩
  obtain ⟨bm, ob, e1, e2, e3, e4, e5, e6, e7, e8⟩ := TB.bm
  have cneT : cStatics ≠ T := fun e => by
    obtain ⟨_, hns, _⟩ := I1.nolimit
    obtain ⟨o', es, ep, ho, hd, _⟩ := hns
    rw [e, hTs] at ho
    cases ho
    cases hd
  have cLt : cStatics < s1.heap.objs.size := let ⟨_, hns, _⟩ := I1.nolimit; hns.lt
  have sz2 : (s1.heap.push o).objs.size = s1.heap.objs.size + 1 := Heap.size_push ..
  have keep3 : ∀ b u, b ≠ T → s1.heap.get? b = some u → h3.get? b = some u := fun b u hb e => hx b u hb (push_keep b u e)
  refine wpAny_builtinsFor (m := X.mg) (by rw [I1.ok.glob]; exact ((I1.mod.glob.keeps I1.bk).push o).extBut hx TB.gP) e1 e2 (keep3 _ _ e4 (I1.bk _ _ e5)) e6 e7 e8 ?_
  have aneT : a ≠ T := fun z => by
    rcases hsq with q | q
    · rcases q with (q | ⟨_, q⟩) | ⟨_, _, _, hk, _⟩
      · rw [z, hT] at q; cases q
      · rw [z, hT] at q; cases q
      · exact noT a _ (I1.mod.kin a _ hk) z
    · rcases q with (q | ⟨_, q⟩) | ⟨_, _, _, hk, _⟩
      · rw [z, hT] at q; cases q
      · rw [z, hT] at q; cases q
      · exact noT a _ (I1.mod.kin a _ hk) z
  have sLt : s1.heap.objs.size < h3.objs.size := Nat.lt_of_lt_of_le (by rw [sz2]; exact Nat.lt_succ_self _) hsz
  have Wk2 : ∀ B : Around, B.handled = none → Walks X.prog X.w B s1.heap.objs.size [s1.heap.objs.size, a] [s1.heap.objs.size] xs.length (fun i v => its.toArray[i]? = some v) St := hlen ▸ Wk
  refine ⟨s1.heap.objs.size, [s1.heap.objs.size, a], [s1.heap.objs.size], xs.length, (fun i v => its.toArray[i]? = some v), St, (fun _ => true), (fun i y => y = .bool (pb i)), rfl, Wk2, ?_, ?_, lim2.extBut hx cneT, ?_, ?_, ?_⟩
  · refine (Wk2 X.A hr.hd).frame _ _ _ hst fun b hb u e => hx b u (fun z => ?_) e
    rcases List.mem_cons.mp hb with z2 | z2
    · exact Nat.ne_of_lt hTlt (z.symm.trans z2)
    · rcases List.mem_cons.mp z2 with z2 | z2
      · exact aneT (z2.symm.trans z)
      · cases z2
  · intro b hb
    show b < h3.objs.size
    rcases List.mem_cons.mp hb with z | z
    · rw [z]; exact sLt
    · rcases List.mem_cons.mp z with z | z
      · rw [z]; exact Nat.lt_trans haLt sLt
      · cases z
  · intro z
    rcases List.mem_cons.mp z with z | z
    · exact Nat.ne_of_lt cLt z
    · cases z
  · intro href hhref
    refine ⟨fun A' E' i v s₂ m₂ hA hD hU hPv hn hm hk => ?_, fun A' E' i v s₂ m₂ hA hD hU hPv hp hn hm hk => ?_⟩
    · simp only [List.forIn_nil]
      exact wpAny_pure ⟨rfl, keeps_refl _⟩
    · have hv2 : its[i]? = some v := by simpa using hPv
      have hi2 : i < xs.length := by
        have := (List.getElem?_eq_some_iff.mp hv2).1
        rw [rv.length]; exact this
      obtain ⟨u, hu, ru⟩ := rv.get (List.getElem?_eq_getElem hi2)
      have euv : u = v := Option.some.inj (hu.symm.trans hv2)
      subst euv
      have ob2 : ∀ b w', b ≠ T → s1.heap.get? b = some w' → s₂.heap.get? b = some w' := fun b w' hb e => by
        have l1 := Heap.lt_size e
        have e3 := keep3 b w' hb e
        refine hk b (List.mem_range.mpr (Heap.lt_size e3)) (fun z => ?_) _ (hhref _ _ e3)
        rcases List.mem_cons.mp z with z | z
        · exact Nat.ne_of_lt l1 z
        · cases z
      have rm : Room k A' := ⟨hA, by have := hr.dp; omega, by have := hr.un; omega⟩
      refine hel A' (genEnv sc (cloFrom X.env.cells sc.names []) h3.objs.size code builtinsNs X.env) s₂.heap i _ u rm rfl I1.ok.glob rfl (fun b w' e => ob2 b w' (noT b w' e) (I1.bk b w' e)) ⟨m₂, hn, hm⟩ (List.getElem?_eq_getElem hi2) ru (fun b ho hb e => ?_) (fun jj yy vv n1 n2 n3 n4 => ?_) s₂ _ _ (fun _ _ e => e) fun y h' tk' ry hk' => ?_
      · refine (I1.hok b ho e).stay (fun d w' hd q => ob2 d w' ?_ q) (fun _ q => q) fun _ _ q => q
        rcases hd with z | z
        · rw [z]; exact hb
        · intro z2
          rw [z2, hT] at z
          cases z
      · obtain ⟨m1, _, hl1⟩ := I1.loc
        obtain ⟨uu, r9, lk⟩ := hl1 jj yy vv n1 n2 (.inr (.inl n3))
        rcases lk with ⟨k9, _⟩ | ⟨_, c9, hc9, o9, ho9, hd9⟩
        · rw [show X.env.scope.names.lookup yy = some .local from k9] at n3
          cases n3
        · obtain ⟨c8, h8⟩ := mem_lookup (cloFrom_has (cells := X.env.cells) (acc := []) (PySem.mem_of_lookup n4))
          have e8 : X.env.cells.lookup yy = some c8 := by
            rcases cloFrom_mem (PySem.mem_of_lookup h8) with hm9 | ⟨h1, h2⟩
            · cases hm9
            · obtain ⟨c1, hc1⟩ := S.free _ h1 rfl
              have hc1 : X.env.cells.lookup yy = some c1 := hc1
              have e2 : c8 = c1 := by
                rw [h2, hc1] <;> rfl
              rw [e2]
              exact hc1
          have e7 : c8 = c9 := Option.some.inj (e8.symm.trans hc9)
          subst e7
          have nT : c8 ≠ T := fun z => by
            have n := I1.freeC yy c8 hc9
            rw [z, hT] at n
            cases n
          exact ⟨uu, c8, r9, h8, o9, ob2 _ _ nT ho9, hd9⟩
      · exact ⟨ry, h', tk', rfl, hk'⟩
  · intro g h5 tk5 gs hgb hag hsz5 hk5 W5 hat
    simp only [GxR.passing_true, List.length_range] at W5
    refine hQ H1 xs pb g _ hR ⟨_, _, _, _, _, W5.in4_1, hat, ?_, fun s' hm => ?_⟩
    · intro j y sj Qj Ej hy hQj
      obtain ⟨i, hij, rfl⟩ := hy
      obtain ⟨hj, ej⟩ := List.getElem?_eq_some_iff.mp hij
      rw [List.getElem_range] at ej
      subst ej
      exact wpAny_truthy_bool hQj
    · obtain ⟨more, em⟩ := hmore
      have nwr : ∀ b u, s1.heap.get? b = some u → b ∉ h3.objs.size :: [s1.heap.objs.size] := fun b u e hb => by
        have hl := Heap.lt_size e
        rcases List.mem_cons.mp hb with z | z
        · have h9 : b = h3.objs.size := z
          have : b < s1.heap.objs.size := hl
          rw [h9] at this
          have h10 : h3.objs.size < s1.heap.objs.size := this
          omega
        · rcases List.mem_cons.mp z with z | z
          · rw [z] at hl
            exact Nat.lt_irrefl _ hl
          · cases z
      have J := inv_tab (more := more) (h' := s'.heap) (g' := s'.gens) (d' := s'.drawn) (t' := s'.toks) I1 hT (fun b u hb e => hm.heap b u (nwr b u e) (hk5 b u (keep3 b u hb e)))
        (by rw [← em]; exact hm.heap T _ (nwr T _ hTs) (hk5 T _ hT3)) (AllBare.movedS (I1.bare.push hgb) hm)
      rw [sh_eta s1 s' hm.os] at J
      exact ⟨upd H1 T (.tbl (ps ++ more)), ⟨⟨ps ++ more, upd_same, by rw [← em]; exact ht3⟩, fun b hb => upd_ne hb⟩, J⟩

/-- all(test for x in e), names of the def read: the reading -/
def tAllC (X : Cx) (T : Addr) (sc : Scope) (x : Str) (elt : Expr) (k : Nat) (te : TE) : TE := fun σ H Q => te σ H fun v H1 => ∃ (a : Addr) (xs : List V) (pb : Nat → Bool),
  v = .ref a ∧ (SqT X.K H1 a xs ∨ SqL X.K H1 a xs) ∧ TabG H1 T ∧ EltC X σ T sc x elt k H1 xs pb ∧ ∀ H2, Tabbed T H1 H2 → Q (.bl ((List.range xs.length).all pb)) H2
theorem pe_allC {c T : Addr} {elt iter : Expr} {x : Str} {px p pos gp : Pos} {sc : Scope} {te : TE} {k : Nat} (hr : Room (k + 1) X.A) (hg : Gl X "all") (hm : X.mg "all" = none) (TB : TabB X.base X.mg c T) (hcode : X.env.code = .ref c)
    (S : GenS X.env sc x) (hi : PE X iter te) (hb : bootBuiltins "all" = some (.builtin "all") := by decide +kernel) (hs : ∀ v, genFold iter X.env v = pure v := by intro _; rfl)
    (he : starEach [.GeneratorExp elt [⟨.Name x px, iter, [], 0⟩] sc gp] X.env = (false, eval (.GeneratorExp elt [⟨.Name x px, iter, [], 0⟩] sc gp) X.env) :: starEach [] X.env := by rfl) :
    PE X (.Call (.Name "all" p) [.GeneratorExp elt [⟨.Name x px, iter, [], 0⟩] sc gp] [] pos) (tAllC X T sc x elt k te) := by
  refine ⟨fun pins s σ H Q I h => wpAny_Call_Name_kw (ld_blt I hg hm hb (PyProof.Rows.callWith_builtin1 ?_ he (by rfl)))⟩
  rw [he]
  show wpAny _ _ (spliced ((false, eval (.GeneratorExp elt [⟨.Name x px, iter, [], 0⟩] sc gp) X.env) :: backTo pos (starEach [] X.env))) _ _ s
  refine Calls.spliced_cons (gen_cap (R := fun H1 xs pb => ∀ H2, Tabbed T H1 H2 → Q (.bl ((List.range xs.length).all pb)) H2) hr TB hcode S hi hs I h fun H1 xs pb g s5 hR hG => ?_)
  obtain ⟨fp, wr, G, F, St, Wk, hst, htr, hI⟩ := hG
  refine Calls.spliced_nil (call_all_walkS (Wk.self 0 _ _ _ hst ⟨g, fp, wr, G, _, F, St, _, rfl, Wk, hst, htr, fun s' hmv => ?_⟩))
  obtain ⟨H2, hT, J⟩ := hI s' hmv
  exact ⟨.bl _, H2, J, rfl, hR H2 hT⟩
/-- a name of the def that asks, in the generator -/
theorem ev_cap {P : Program} {w : World} {A : Around} {env : Env} {g : Heap} {x : Str} {pos : Pos} {u : Value} {v : V} {c : Addr} (hk : env.scope.kind = .function) (hx : env.scope.names.lookup x = some .free) (r : RelV v u) (hc : env.cells.lookup x = some c) (hv : g.IsCell c (some u))
    (hd : (x == ("__debug__" : Str)) = false := by decide) (hcd : (x == ("__classdict__" : Str)) = false := by decide) : EV P w A env g (.Name x pos) v := fun s Q E he hQ => by
  obtain ⟨o, ho, hd'⟩ := hv
  exact wpAny_Name (wpAny_loadName_free hk hx hc ⟨o, he _ _ ho, hd'⟩ (hQ u s.heap s.toks r fun _ _ e => e) hcd) hd
end
end Pu
set_option Elab.async false
set_option linter.all false
set_option maxRecDepth 100000
set_option maxHeartbeats 4000000
/-! zip of two sequences, each a list or a tuple. -/
namespace Pz
open PySem
open PySem.Sem (wp)
/-- a list's or a tuple's iterator at its k-th item; the sequence itself -/
def ItAt (h : Heap) (b : Bool) (it l : Addr) (k : Nat) : Prop := match b with
  | true => h.IsTupleIter it l k
  | false => h.IsListIter it l k
def SqAt (h : Heap) (b : Bool) (l : Addr) (xs : Array Value) : Prop := match b with
  | true => h.IsTuple l xs
  | false => h.IsList l xs
section
variable {prog : Program} {w : World} {A : Around} {E : Value → Shared → Prop} {s : Shared}
theorem ItAt.to {h g : Heap} {b : Bool} {it l : Addr} {k : Nat} (x : ItAt h b it l k) (e : ∀ o, h.get? it = some o → g.get? it = some o) : ItAt g b it l k := by
  cases b with
  | true => exact Heap.IsTupleIter.at x e
  | false => exact Heap.IsListIter.at x e
theorem ItAt.lt {h : Heap} {b : Bool} {it l : Addr} {k : Nat} (x : ItAt h b it l k) : it < h.objs.size := by
  cases b with
  | true => obtain ⟨_, e, _⟩ := x; exact Heap.lt_size e
  | false => obtain ⟨_, e, _⟩ := x; exact Heap.lt_size e
theorem ItAt.ob {h : Heap} {b : Bool} {it l : Addr} {k : Nat} (x : ItAt h b it l k) : ∃ o, h.get? it = some o ∧ ∀ v, o.data ≠ .cell v := by
  cases b with
  | true => obtain ⟨o, e, _, d⟩ := x; exact ⟨o, e, fun v q => by rw [d] at q; cases q⟩
  | false => obtain ⟨o, e, _, d⟩ := x; exact ⟨o, e, fun v q => by rw [d] at q; cases q⟩
theorem SqAt.to {h g : Heap} {b : Bool} {l : Addr} {xs : Array Value} (x : SqAt h b l xs) (e : ∀ o, h.get? l = some o → g.get? l = some o) : SqAt g b l xs := by
  cases b with
  | true => obtain ⟨o, a, r⟩ := x; exact ⟨o, e o a, r⟩
  | false => obtain ⟨o, a, r⟩ := x; exact ⟨o, e o a, r⟩
theorem SqAt.lt {h : Heap} {b : Bool} {l : Addr} {xs : Array Value} (x : SqAt h b l xs) : l < h.objs.size := by
  cases b with
  | true => obtain ⟨_, e, _⟩ := x; exact Heap.lt_size e
  | false => obtain ⟨_, e, _⟩ := x; exact Heap.lt_size e
theorem draw {b : Bool} {it l : Addr} {k : Nat} {xs : Array Value} {v : Value} {Q : Value → Shared → Prop} (x : ItAt s.heap b it l k) (y : SqAt s.heap b l xs) (hv : xs[k]? = some v)
    (q : ∀ g, ItAt g b it l (k + 1) → Heap.SameBut it s.heap g → Q v { s with heap := g }) : wpAny (model prog w) A (Builtin.SmallTypes.nextOf (.ref it)) Q E s := by
  cases b with
  | true => exact RZ.nextOf_tuple_item x y hv q
  | false => exact wpAny_nextOf_list_item x y hv q
theorem drawn {b : Bool} {it l : Addr} {k : Nat} {xs : Array Value} {Q : Value → Shared → Prop} (hh : A.handled = none) (x : ItAt s.heap b it l k) (y : SqAt s.heap b l xs) (hv : xs[k]? = none)
    (q : ∀ g e, Heap.ExtBut it s.heap g → (∃ o, g.get? e = some o ∧ o.cls = .type "StopIteration") → E (.ref e) { s with heap := g }) : wpAny (model prog w) A (Builtin.SmallTypes.nextOf (.ref it)) Q E s := by
  cases b with
  | true => exact RZ.nextOf_tuple_end hh x y hv q
  | false => exact wpAny_nextOf_list_end hh x y hv q
end
end Pz
set_option Elab.async false
set_option linter.all false
set_option maxRecDepth 100000
set_option maxHeartbeats 4000000
namespace Pz
open PySem
open PySem.Sem (wp)
/-- all but the zip, its pair and its two iterators stays -/
def Far (z O i j : Addr) (h g : Heap) : Prop := ∀ c o, c ≠ z → c ≠ O → c ≠ i → c ≠ j → h.get? c = some o → g.get? c = some o
section
variable {prog : Program} {w : World} {A : Around} {E : Value → Shared → Prop} {s : Shared} {b b' : Bool} {z N O i j l l' : Addr} {k k' : Nat} {xs ys : Array Value} {p q u v : Value}
theorem zip_item {Q : Value → Shared → Prop} (D : ZipApart z N O i j l l') (hz : IsZip s.heap z N O .none) (hN : IsPair s.heap N (.ref i) (.ref j)) (hO : IsPair s.heap O p q)
    (x1 : ItAt s.heap b i l k) (x2 : ItAt s.heap b' j l' k') (y1 : SqAt s.heap b l xs) (y2 : SqAt s.heap b' l' ys) (hu : xs[k]? = some u) (hv : ys[k']? = some v)
    (done : ∀ g, IsZip g z N O (rawInt s.heap.objs.size) → IsPair g O u v → ItAt g b i l (k + 1) → ItAt g b' j l' (k' + 1) → IsPair g s.heap.objs.size u v → g.objs.size = s.heap.objs.size + 1 → Far z O i j s.heap g → Q (.ref s.heap.objs.size) { s with heap := g }) :
    wpAny (model prog w) A (Builtin.«zip.__next__» ⟨[.ref z], []⟩) (fun f t => ∃ r, f = .done (.ret r) ∧ Q r t) E s := by
  show wpAny _ _ (field (.ref z) 2 >>= _) _ _ _; refine wpAny_bind (wpAny_field hz rfl (x := .bool false) rfl ?_)
  show wpAny _ _ (field (.ref z) 3 >>= _) _ _ _; refine wpAny_bind (wpAny_field hz rfl (x := .ref N) rfl (wpAny_bind (wpAny_seqItems hN rfl ?_)))
  show wpAny _ _ (Builtin.SmallTypes.ownedTupleIsFree (.ref z) >>= _) _ _ _; refine wpAny_bind ?_; unfold Builtin.SmallTypes.ownedTupleIsFree
  refine wpAny_bind (wpAny_field hz rfl (x := .none) rfl (wpAny_pure ?_)); simp only [if_true]; refine wpAny_bind (wpAny_rule (wpAny_bind (wpAny_field hz rfl (x := .ref O) rfl ?_)))
  refine wpAny_bind (wpAny_setField_rec hz (by simp) fun g1 z1 s1 => ?_); replace z1 : IsZip g1 z N O .ellipsis := z1
  refine wpAny_bind ?_; simp only [List.zipIdx_cons, List.zipIdx_nil, List.forIn_cons, List.forIn_nil]
  -- the first sequence
  refine wpAny_bind (wpAny_bind (wpAny_onRaise ?_)); show wpAny _ _ (Builtin.SmallTypes.nextOf (.ref i) >>= _) _ _ _
  refine wpAny_bind (draw (s := { s with heap := g1 }) (x1.to fun o e => s1.extBut _ _ D.i1z e) (y1.to fun o e => s1.extBut _ _ D.l1z e) hu fun g2 w1 s2 => wpAny_pure ?_)
  have o2 : IsPair g2 O p q := s2.extBut _ _ D.TOi1 (s1.extBut _ _ D.TOz hO)
  refine wpAny_bind (wpAny_seqItems o2 rfl (wpAny_bind (wpAny_updateSeq_pair o2 fun g3 o3 s3 => ?_))); replace o3 : IsPair g3 O u q := o3
  refine wpAny_bind (wpAny_letGo (wpAny_pure (wpAny_bind (wpAny_bind (wpAny_onRaise ?_)))))
  -- the second one
  show wpAny _ _ (Builtin.SmallTypes.nextOf (.ref j) >>= _) _ _ _
  have far3 : ∀ c o, c ≠ z → c ≠ i → c ≠ O → s.heap.get? c = some o → g3.get? c = some o := fun c o n1 n2 n3 e => s3.extBut _ _ n3 (s2.extBut _ _ n2 (s1.extBut _ _ n1 e))
  refine wpAny_bind (draw (s := { s with heap := g3 }) (x2.to fun o e => far3 _ _ D.i2z D.i12.symm D.TOi2.symm e) (y2.to fun o e => far3 _ _ D.l2z D.l2i1 D.l2TO e) hv fun g4 w2 s4 => wpAny_pure ?_)
  have o4 : IsPair g4 O u q := s4.extBut _ _ D.TOi2 o3
  refine wpAny_bind (wpAny_seqItems o4 rfl (wpAny_bind (wpAny_updateSeq_pair o4 fun g5 o5 s5 => ?_))); replace o5 : IsPair g5 O u v := o5
  refine wpAny_bind (wpAny_letGo (wpAny_pure (wpAny_pure (wpAny_bind (wpAny_seqItems o5 rfl (wpAny_bind (wpAny_newTuple ?_)))))))
  have far5 : Far z O i j s.heap g5 := fun c o n1 n2 n3 n4 e => s5.extBut _ _ n2 (s4.extBut _ _ n4 (far3 c o n1 n3 n2 e))
  have sz5 : g5.objs.size = s.heap.objs.size := by rw [s5.1, s4.1, s3.1, s2.1, s1.1]
  have z5 : IsZip g5 z N O .ellipsis := s5.extBut _ _ D.TOz.symm (s4.extBut _ _ D.i2z.symm (s3.extBut _ _ D.TOz.symm (s2.extBut _ _ D.i1z.symm z1)))
  have v1 : ItAt g5 b i l (k + 1) := w1.to fun o e => s5.extBut _ _ D.TOi1.symm (s4.extBut _ _ D.i12 (s3.extBut _ _ D.TOi1.symm e))
  have v2 : ItAt g5 b' j l' (k' + 1) := w2.to fun o e => s5.extBut _ _ D.TOi2.symm e
  have zl : z < g5.objs.size := Heap.lt_size z5
  -- the new tuple is handed out
  show wpAny _ _ (Builtin.SmallTypes.ownedTupleHandOut (.ref z) (.ref g5.objs.size) >>= _) _ _ _; refine wpAny_bind ?_; unfold Builtin.SmallTypes.ownedTupleHandOut
  refine wpAny_bind (wpAny_setField_rec (show IsZip (g5.push { cls := .type "tuple", data := .seq #[u, v] }) z N O .ellipsis from Heap.get?_push_of_some _ z5) (by simp) fun g6 z6 s6 => ?_)
  replace z6 : IsZip g6 z N O (rawInt g5.objs.size) := z6; refine wpAny_setField_rec z6 (by simp) fun g7 z7 s7 => ?_; replace z7 : IsZip g7 z N O (rawInt g5.objs.size) := z7
  have up : ∀ c o, c ≠ z → g5.get? c = some o → g7.get? c = some o := fun c o n e => s7.extBut _ _ n (s6.extBut _ _ n (Heap.get?_push_of_some _ e))
  have new : IsPair g7 g5.objs.size u v := s7.extBut _ _ (Nat.ne_of_gt zl) (s6.extBut _ _ (Nat.ne_of_gt zl) (Heap.get?_push_size _ rfl))
  have sz7 : g7.objs.size = g5.objs.size + 1 := by rw [s7.1, s6.1, Heap.size_push]
  rw [sz5] at z7 new sz7
  refine wpAny_pure ⟨_, rfl, ?_⟩; show Q (.ref g5.objs.size) _; rw [sz5]
  exact done g7 z7 (up _ _ D.TOz o5) (v1.to fun o e => up _ _ D.i1z e) (v2.to fun o e => up _ _ D.i2z e) new sz7 fun c o n1 n2 n3 n4 e => up _ _ n1 (far5 c o n1 n2 n3 n4 e)
end
end Pz
set_option Elab.async false
set_option linter.all false
set_option maxRecDepth 100000
set_option maxHeartbeats 4000000
namespace Pz
open PySem
open PySem.Sem (wp)
section
variable {prog : Program} {w : World} {A : Around} {E : Value → Shared → Prop} {s : Shared} {b b' : Bool} {z N O i j l l' : Addr} {k k' : Nat} {xs ys : Array Value} {p q u v : Value}
theorem zip_over {Q : Fin → Shared → Prop} (calm : A.handled = none) (D : ZipApart z N O i j l l') (hz : IsZip s.heap z N O .none) (hN : IsPair s.heap N (.ref i) (.ref j)) (hO : IsPair s.heap O p q)
    (x1 : ItAt s.heap b i l k) (x2 : ItAt s.heap b' j l' k') (y1 : SqAt s.heap b l xs) (y2 : SqAt s.heap b' l' ys) (over : xs[k]? = none ∨ ys[k']? = none)
    (stop : ∀ g e, Far z O i j s.heap g → (∃ o, g.get? e = some o ∧ o.cls = .type "StopIteration") → E (.ref e) { s with heap := g }) :
    wpAny (model prog w) A (Builtin.«zip.__next__» ⟨[.ref z], []⟩) Q E s := by
  show wpAny _ _ (field (.ref z) 2 >>= _) _ _ _; refine wpAny_bind (wpAny_field hz rfl (x := .bool false) rfl ?_)
  show wpAny _ _ (field (.ref z) 3 >>= _) _ _ _; refine wpAny_bind (wpAny_field hz rfl (x := .ref N) rfl (wpAny_bind (wpAny_seqItems hN rfl ?_)))
  show wpAny _ _ (Builtin.SmallTypes.ownedTupleIsFree (.ref z) >>= _) _ _ _; refine wpAny_bind ?_; unfold Builtin.SmallTypes.ownedTupleIsFree
  refine wpAny_bind (wpAny_field hz rfl (x := .none) rfl (wpAny_pure ?_)); simp only [if_true]; refine wpAny_bind (wpAny_rule (wpAny_bind (wpAny_field hz rfl (x := .ref O) rfl ?_)))
  refine wpAny_bind (wpAny_setField_rec hz (by simp) fun g1 z1 s1 => ?_); replace z1 : IsZip g1 z N O .ellipsis := z1
  refine wpAny_bind ?_; simp only [List.zipIdx_cons, List.zipIdx_nil, List.forIn_cons, List.forIn_nil]
  refine wpAny_bind (wpAny_bind (wpAny_onRaise ?_)); show wpAny _ _ (Builtin.SmallTypes.nextOf (.ref i) >>= _) _ _ _
  have xi : ItAt g1 b i l k := x1.to fun o e => s1.extBut _ _ D.i1z e
  have yi : SqAt g1 b l xs := y1.to fun o e => s1.extBut _ _ D.l1z e
  match hu : xs[k]? with
  | none =>
    refine wpAny_bind (drawn (s := { s with heap := g1 }) calm xi yi hu fun g2 e far fin => ?_)
    obtain ⟨oe, he, ce⟩ := fin
    have z2 : IsZip g2 z N O .ellipsis := far _ _ D.i1z.symm z1
    have en : e ≠ z := by intro y; rw [y, z2] at he; cases he; simp at ce
    exact wpAny_setField_rec z2 (by simp) fun g3 _ s3 => stop g3 e (fun c o n1 _ n3 _ a => s3.extBut _ _ n1 (far _ _ n3 (s1.extBut _ _ n1 a))) ⟨oe, s3.extBut _ _ en he, ce⟩
  | some u =>
    have hv : ys[k']? = none := over.resolve_left fun y => by rw [hu] at y; cases y
    refine wpAny_bind (draw (s := { s with heap := g1 }) xi yi hu fun g2 w1 s2 => wpAny_pure ?_)
    have o2 : IsPair g2 O p q := s2.extBut _ _ D.TOi1 (s1.extBut _ _ D.TOz hO)
    refine wpAny_bind (wpAny_seqItems o2 rfl (wpAny_bind (wpAny_updateSeq_pair o2 fun g3 o3 s3 => ?_)))
    refine wpAny_bind (wpAny_letGo (wpAny_pure (wpAny_bind (wpAny_bind (wpAny_onRaise ?_))))); show wpAny _ _ (Builtin.SmallTypes.nextOf (.ref j) >>= _) _ _ _
    have far3 : ∀ c o, c ≠ z → c ≠ i → c ≠ O → s.heap.get? c = some o → g3.get? c = some o := fun c o n1 n2 n3 e => s3.extBut _ _ n3 (s2.extBut _ _ n2 (s1.extBut _ _ n1 e))
    refine wpAny_bind (drawn (s := { s with heap := g3 }) calm (x2.to fun o e => far3 _ _ D.i2z D.i12.symm D.TOi2.symm e) (y2.to fun o e => far3 _ _ D.l2z D.l2i1 D.l2TO e) hv fun g4 e far fin => ?_)
    obtain ⟨oe, he, ce⟩ := fin
    have z4 : IsZip g4 z N O .ellipsis := far _ _ D.i2z.symm (s3.extBut _ _ D.TOz.symm (s2.extBut _ _ D.i1z.symm z1))
    have en : e ≠ z := by intro y; rw [y, z4] at he; cases he; simp at ce
    exact wpAny_setField_rec z4 (by simp) fun g5 _ s5 => stop g5 e (fun c o n1 n2 n3 n4 a => s5.extBut _ _ n1 (far _ _ n4 (far3 c o n1 n3 n2 a))) ⟨oe, s5.extBut _ _ en he, ce⟩
theorem next_item {Q : Option Value → Shared → Prop} (D : ZipApart z N O i j l l') (hz : IsZip s.heap z N O .none) (hN : IsPair s.heap N (.ref i) (.ref j)) (hO : IsPair s.heap O p q)
    (x1 : ItAt s.heap b i l k) (x2 : ItAt s.heap b' j l' k') (y1 : SqAt s.heap b l xs) (y2 : SqAt s.heap b' l' ys) (hu : xs[k]? = some u) (hv : ys[k']? = some v)
    (done : ∀ g, IsZip g z N O (rawInt s.heap.objs.size) → IsPair g O u v → ItAt g b i l (k + 1) → ItAt g b' j l' (k' + 1) → IsPair g s.heap.objs.size u v → g.objs.size = s.heap.objs.size + 1 → Far z O i j s.heap g → Q (some (.ref s.heap.objs.size)) { s with heap := g }) :
    wpAny (model prog w) A (pyNext (.ref z)) Q E s := by
  have ty : s.TypeIs (.ref z) "zip" := ⟨_, hz, rfl⟩
  unfold pyNext
  refine wpAny_bind (wpAny_attempt (wpAny_callSpecial?_slot (name := Str.ofString "__next__") ty F.slot_zip_next (wpAny_call_entry F.slot_zip_next ty F.entry_zip_next ?_ (F.args_zip_next_1 _))))
  exact zip_item D hz hN hO x1 x2 y1 y2 hu hv fun g c1 c2 c3 c4 c5 c6 c7 => wpAny_pure (done g c1 c2 c3 c4 c5 c6 c7)
theorem next_over {Q : Option Value → Shared → Prop} (calm : A.handled = none) (D : ZipApart z N O i j l l') (hz : IsZip s.heap z N O .none) (hN : IsPair s.heap N (.ref i) (.ref j)) (hO : IsPair s.heap O p q)
    (x1 : ItAt s.heap b i l k) (x2 : ItAt s.heap b' j l' k') (y1 : SqAt s.heap b l xs) (y2 : SqAt s.heap b' l' ys) (over : xs[k]? = none ∨ ys[k']? = none) (done : ∀ g, Far z O i j s.heap g → Q none { s with heap := g }) :
    wpAny (model prog w) A (pyNext (.ref z)) Q E s := by
  have ty : s.TypeIs (.ref z) "zip" := ⟨_, hz, rfl⟩
  unfold pyNext
  refine wpAny_bind (wpAny_attempt (wpAny_callSpecial?_slot (name := Str.ofString "__next__") ty F.slot_zip_next (wpAny_call_entry F.slot_zip_next ty F.entry_zip_next ?_ (F.args_zip_next_1 _))))
  refine zip_over calm D hz hN hO x1 x2 y1 y2 over fun g e far fin => ?_
  obtain ⟨o, ho, hc⟩ := fin
  exact wpAny_bind (wpAny_isInstance (T := "StopIteration") (b := true) ⟨o, ho, hc⟩ isSubtype_stop (wpAny_pure (done g far)))
/-- the class of a sequence's iterator -/
def itCls (b : Bool) : Value := if b = true then .type "tuple_iterator" else .type "list_iterator"
theorem iter_of {Q : Value → Shared → Prop} (y : SqAt s.heap b l xs) (q : Q (.ref s.heap.objs.size) { s with heap := s.heap.push { cls := itCls b, data := .fields #[.ref l, .int 0 0] } }) : wpAny (model prog w) A (pyIter (.ref l)) Q E s := by
  cases b with
  | true => exact wpAny_pyIter_tuple y q
  | false => exact wpAny_pyIter_list y q
theorem it_new {h : Heap} {g : Heap} {a : Addr} (e : g.get? a = some { cls := itCls b, data := .fields #[.ref l, .int 0 0] }) : ItAt g b a l 0 := by
  cases b with
  | true => exact ⟨_, e, rfl, rfl⟩
  | false => exact ⟨_, e, rfl, rfl⟩
end
end Pz
set_option Elab.async false
set_option linter.all false
set_option maxRecDepth 100000
set_option maxHeartbeats 4000000
namespace Pz
open PySem
open PySem.Sem (wp)
def itOf (b : Bool) (l : Addr) : Obj := { cls := itCls b, data := .fields #[.ref l, .int 0 0] }
def made2 (h : Heap) (b b' : Bool) (l l' : Addr) : Heap := (h.push (itOf b l)).push (itOf b' l')
def made3 (h : Heap) (b b' : Bool) (l l' : Addr) : Heap := (made2 h b b' l l').push { cls := .type "tuple", data := .seq #[.ref h.objs.size, .ref (h.push (itOf b l)).objs.size] }
def made4 (h : Heap) (b b' : Bool) (l l' : Addr) : Heap := (made3 h b b' l l').push { cls := .type "tuple", data := .seq #[.none, .none] }
def made5 (h : Heap) (b b' : Bool) (l l' : Addr) : Heap := (made4 h b b' l l').push { cls := .type "zip", data := .fields #[.none, .bool false, .bool false, .ref (made2 h b b' l l').objs.size, .ref (made3 h b b' l l').objs.size] }
theorem zip_makes (b b' : Bool) (l l' : Addr) (xs ys : Array Value) :
    Meets (Builtin.«zip.__new__» ⟨[.type "zip", .ref l, .ref l'], []⟩) (fun _ R s => SqAt s.heap b l xs ∧ SqAt s.heap b' l' ys ∧ R (.ok (.ret (.ref (made4 s.heap b b' l l').objs.size))) { s with heap := made5 s.heap b b' l l' }) :=
  .of_wp fun prog w A R t ht => by
    obtain ⟨h, g, d, tk, os⟩ := t; obtain ⟨y1, y2, r⟩ := ht
    have sub := sub_zip
    have c1 : SqAt (Shared.heap ⟨h, g, d, tk, os⟩) b l xs := y1
    have c2 : SqAt (Shared.heap ⟨h.push { cls := itCls b, data := .fields #[.ref l, .int 0 0] }, g, d, tk, os⟩) b' l' ys := y2.to fun o e => Heap.get?_push_of_some _ e
    wp_walk using iter_of c1, iter_of c2
    exact ⟨_, rfl, r⟩
section
variable {prog : Program} {w : World} {A : Around} {E : Value → Shared → Prop} {s : Shared} {b b' : Bool} {l l' : Addr} {xs ys : Array Value}
theorem call_zip {Q : Value → Shared → Prop} (y1 : SqAt s.heap b l xs) (y2 : SqAt s.heap b' l' ys)
    (q : ∀ g, IsZip g (s.heap.objs.size + 4) (s.heap.objs.size + 2) (s.heap.objs.size + 3) .none → IsPair g (s.heap.objs.size + 2) (.ref s.heap.objs.size) (.ref (s.heap.objs.size + 1)) → IsPair g (s.heap.objs.size + 3) .none .none →
      ItAt g b s.heap.objs.size l 0 → ItAt g b' (s.heap.objs.size + 1) l' 0 → (∀ c o, s.heap.get? c = some o → g.get? c = some o) → Q (.ref (s.heap.objs.size + 4)) { s with heap := g }) :
    wpAny (model prog w) A (call (.type "zip") [.ref l, .ref l']) Q E s := by
  refine callType_new F.called_zip (by decide) (F.typeCall_zip_2 _ _) (F.newCall_zip_2 _ _) (fun o => F.args_object_init_3 o _ _) F.entry_zip_new (zip_makes b b' l l' xs ys) ⟨y1, y2, ?_⟩
  obtain ⟨n, hn⟩ : ∃ n, n = s.heap.objs.size := ⟨_, rfl⟩
  have n1 : (s.heap.push (itOf b l)).objs.size = n + 1 := by rw [Heap.size_push, hn]
  have n2 : (made2 s.heap b b' l l').objs.size = n + 2 := by unfold made2; rw [Heap.size_push, n1]
  have n3 : (made3 s.heap b b' l l').objs.size = n + 3 := by unfold made3; rw [Heap.size_push, n2]
  have n4 : (made4 s.heap b b' l l').objs.size = n + 4 := by unfold made4; rw [Heap.size_push, n3]
  have a5 : IsZip (made5 s.heap b b' l l') (made4 s.heap b b' l l').objs.size (made2 s.heap b b' l l').objs.size (made3 s.heap b b' l l').objs.size .none := Heap.get?_push_size _ rfl
  have a4 : IsPair (made5 s.heap b b' l l') (made3 s.heap b b' l l').objs.size .none .none := Heap.get?_push_of_some _ (Heap.get?_push_size _ rfl)
  have a3 : IsPair (made5 s.heap b b' l l') (made2 s.heap b b' l l').objs.size (.ref s.heap.objs.size) (.ref (s.heap.push (itOf b l)).objs.size) := Heap.get?_push_of_some _ (Heap.get?_push_of_some _ (Heap.get?_push_size _ rfl))
  have a2 : (made5 s.heap b b' l l').get? (s.heap.push (itOf b l)).objs.size = some (itOf b' l') := Heap.get?_push_of_some _ (Heap.get?_push_of_some _ (Heap.get?_push_of_some _ (Heap.get?_push_size _ rfl)))
  have a1 : (made5 s.heap b b' l l').get? s.heap.objs.size = some (itOf b l) := Heap.get?_push_of_some _ (Heap.get?_push_of_some _ (Heap.get?_push_of_some _ (Heap.get?_push_of_some _ (Heap.get?_push_size _ rfl))))
  rw [n2, n3, n4] at a5
  rw [n3] at a4
  rw [n1, n2, ← hn] at a3
  rw [n1] at a2
  rw [← hn] at a1
  rw [← hn] at q
  show _ ∧ _
  rw [n4]
  exact ⟨⟨_, a5, rfl⟩, q _ a5 a3 a4 (it_new (h := s.heap) a1) (it_new (h := s.heap) a2) fun c o e => Heap.get?_push_of_some _ (Heap.get?_push_of_some _ (Heap.get?_push_of_some _ (Heap.get?_push_of_some _ (Heap.get?_push_of_some _ e))))⟩
end
end Pz
set_option Elab.async false
set_option linter.all false
set_option maxRecDepth 100000
set_option maxHeartbeats 4000000
namespace Pz
open PySem PySem.Spec PyProof.Rows L2
def SqB (K : PySem.W.Frag) (H : Hp) (b : Bool) (a : Addr) (xs : List V) : Prop := match b with
  | true => SqT K H a xs
  | false => SqL K H a xs
theorem SqB.at {X : Cx} {pins : List (Addr × Obj)} {σ : L2.St} {H : Hp} {s : Shared} {b : Bool} {a : Addr} {xs : List V} (I : Inv X pins σ H s) (q : SqB X.K H b a xs) : ∃ its : List Value, Vals xs its ∧ SqAt s.heap b a its.toArray := by
  cases b with
  | true =>
    obtain ⟨its, r, p, _⟩ := I.tuple q
    exact ⟨its, r, p⟩
  | false =>
    obtain ⟨its, r, p, _⟩ := I.list q
    exact ⟨its, r, p.isList⟩
/-- the sequences at a and c, item by item in new pairs -/
def Izs (K : PySem.W.Frag) (b b' : Bool) (a c : Addr) (xs ys : List V) : It :=
  ⟨fun i H => (SqB K H b a xs ∧ SqB K H b' c ys) ∧ i < xs.length ∧ i < ys.length, fun i H v H' => ∃ T x y, v = .ref T ∧ H T = none ∧ H' = upd H T (.tup [x, y]) ∧ xs[i]? = some x ∧ ys[i]? = some y,
    fun i H => (SqB K H b a xs ∧ SqB K H b' c ys) ∧ (xs.length ≤ i ∨ ys.length ≤ i)⟩
def Stz (b b' : Bool) (a c z N O i j : Addr) (k : Nat) (h : Heap) : Prop := IsZip h z N O .none ∧ IsPair h N (.ref i) (.ref j) ∧ (∃ x y, IsPair h O x y) ∧ ItAt h b i a k ∧ ItAt h b' j c k
theorem five {z N O i j c : Addr} {P : Addr → Prop} (h : c ∈ [z, N, O, i, j]) (p1 : P z) (p2 : P N) (p3 : P O) (p4 : P i) (p5 : P j) : P c := by
  rcases List.mem_cons.mp h with y | h
  · rw [y]; exact p1
  · rcases List.mem_cons.mp h with y | h
    · rw [y]; exact p2
    · rcases List.mem_cons.mp h with y | h
      · rw [y]; exact p3
      · rcases List.mem_cons.mp h with y | h
        · rw [y]; exact p4
        · rw [List.mem_singleton.mp h]; exact p5
theorem not5 {z N O i j c : Addr} (h : c ∉ [z, N, O, i, j]) : c ≠ z ∧ c ≠ N ∧ c ≠ O ∧ c ≠ i ∧ c ≠ j := by
  refine ⟨fun y => h ?_, fun y => h ?_, fun y => h ?_, fun y => h ?_, fun y => h ?_⟩ <;> rw [y] <;> simp
theorem turn_zs {P : Program} {w : World} {K : PySem.W.Frag} {elts : List Expr} {kk : Nat} {tpos : Pos} {b b' : Bool} {a c z N O i j : Addr} {xs ys : List V} (D : ZipApart z N O i j a c) :
    Turn P w K (.Tuple elts kk tpos) (Izs K b b' a c xs ys) [z, N, O, i, j] z (Stz b b' a c z N O i j) where
  mem := List.mem_cons_self ..
  obj := fun k h st d hd => by
    obtain ⟨s1, s2, ⟨x, y, s3⟩, s4, s5⟩ := st
    exact five (P := fun d => ∃ o, h.get? d = some o ∧ ∀ v, o.data ≠ .cell v) hd ⟨_, s1, fun v q => nomatch q⟩ ⟨_, s2, fun v q => nomatch q⟩ ⟨_, s3, fun v q => nomatch q⟩ s4.ob s5.ob
  keep := fun k h g st kp => by
    obtain ⟨s1, s2, ⟨x, y, s3⟩, s4, s5⟩ := st
    exact ⟨kp _ (by simp) _ s1, kp _ (by simp) _ s2, ⟨x, y, kp _ (by simp) _ s3⟩, s4.to (kp _ (by simp)), s5.to (kp _ (by simp))⟩
  item := fun X hP hw hK hc k pins s σ H E I hf st go => by
    subst hP hw hK
    obtain ⟨s1, s2, ⟨x0, y0, s3⟩, s4, s5⟩ := st
    obtain ⟨⟨qx, qy⟩, lx, ly⟩ := go
    obtain ⟨us, ru, p1⟩ := qx.at I
    obtain ⟨vs, rv, p2⟩ := qy.at I
    obtain ⟨u, hu, r1⟩ := ru.get (List.getElem?_eq_getElem lx)
    obtain ⟨v, hv, r2⟩ := rv.get (List.getElem?_eq_getElem ly)
    have zl : z < s.heap.objs.size := Heap.lt_size s1
    refine next_item D s1 s2 s3 s4 s5 p1 p2 (u := u) (v := v) (by simpa using hu) (by simpa using hv) fun g z' o' i' j' new _ far => ⟨_, rfl, wpAny_letOwnedTupleGo_zip (s := { s with heap := g }) z' fun g2 z2 sb => ?_⟩
    have new2 : IsPair g2 s.heap.objs.size u v := (sb.2 _ (Nat.ne_of_gt zl)).trans new
    have keep : ∀ d o, d ∉ [z, N, O, i, j] → s.heap.get? d = some o → g2.get? d = some o := fun d o nd e => by
      obtain ⟨n1, _, n3, n4, n5⟩ := not5 nd
      exact (sb.2 _ n1).trans (far d o n1 n3 n4 n5 e)
    have ob : ObjOk X.prog X.w (upd H s.heap.objs.size (.tup [xs[k], ys[k]])) g2 s.heap.objs.size (.tup [xs[k], ys[k]]) := ⟨by show 2 ≤ sizeLine; decide, [u, v], .cons r1 (.cons r2 .nil), ⟨_, new2, rfl, _, rfl⟩⟩
    have J := I.turnedNew (t' := s.toks) (ch := [z, N, O, i, j]) (fun d o nd e => keep d o nd e) hf (Nat.le_refl _) ob
    refine ⟨.ref s.heap.objs.size, _, J, rfl, ⟨_, xs[k], ys[k], rfl, I.hok.fresh (Nat.le_refl _), rfl, List.getElem?_eq_getElem lx, List.getElem?_eq_getElem ly⟩, ⟨z2, (sb.2 _ D.TIz).trans (far _ _ D.TIz D.TITO D.TIi1 D.TIi2 s2), ⟨u, v, (sb.2 _ D.TOz).trans o'⟩, i'.to fun o e => (sb.2 _ D.i1z).trans e, j'.to fun o e => (sb.2 _ D.i2z).trans e⟩, fun d hd => ?_⟩
    have lt : d < s.heap.objs.size := five (P := fun d => d < s.heap.objs.size) hd zl (Heap.lt_size s2) (Heap.lt_size s3) s4.lt s5.lt
    rw [upd_ne (Nat.ne_of_lt lt)]
    exact (hf d hd).1
  done := fun X hP hw hK hc k pins s σ H E I hf st stop => by
    subst hP hw hK
    obtain ⟨s1, s2, ⟨x0, y0, s3⟩, s4, s5⟩ := st
    obtain ⟨⟨qx, qy⟩, over⟩ := stop
    obtain ⟨us, ru, p1⟩ := qx.at I
    obtain ⟨vs, rv, p2⟩ := qy.at I
    have l1 := ru.length
    have l2 := rv.length
    refine next_over (I.ok.hd hc) D s1 s2 s3 s4 s5 p1 p2 ?_ fun g far => ⟨rfl, I.turnedL (t' := s.toks) (ch := [z, N, O, i, j]) (fun d o nd e => ?_) hf⟩
    · rcases over with y | y
      · exact .inl (by simp; omega)
      · exact .inr (by simp; omega)
    · obtain ⟨n1, _, n3, n4, n5⟩ := not5 nd
      exact far d o n1 n3 n4 n5 e
  self := fun A k s Q E st q => wpAny_pyIter_zip st.1 q
def iZipE (K : PySem.W.Frag) (ta : TA) : TI := fun σ H R => ta σ H fun vs H1 => ∃ b b' a c xs ys, vs = [.ref a, .ref c] ∧ SqB K H1 b a xs ∧ SqB K H1 b' c ys ∧ R (Izs K b b' a c xs ys) H1
theorem pi_zipE {X : Cx} {e e2 : Expr} {ta : TA} {p pos tpos : Pos} {elts : List Expr} {kk : Nat} (hg : Gl X "zip") (hm : X.mg "zip" = none) (ha : PA X [e, e2] ta)
    (hs : starEach [e, e2] X.env = (false, eval e X.env) :: starEach [e2] X.env := by rfl) (hpl : (backTo pos (starEach [e2] X.env)).any (·.1) = false := by rfl) :
    PI X (.Tuple elts kk tpos) (.Call (.Name "zip" p) [e, e2] [] pos) (iZipE X.K ta) := ⟨fun pins s σ H R I h => by
  refine Call_ (ld_blt I hg hm PyProof.Rows.boot_zip (PyProof.Rows.callWith_type1 (thn (ha.run pos pins s σ H _ I h) fun us t ⟨vs, H1, J, r, q⟩ => ?_) hs hpl))
  obtain ⟨b, b', a, c, xs, ys, rfl, qx, qy, q⟩ := q
  obtain ⟨u1, u2, rfl, r1, r2⟩ := vals2 r
  cases (show u1 = Value.ref a from r1)
  cases (show u2 = Value.ref c from r2)
  obtain ⟨is1, rv1, p1⟩ := qx.at J
  obtain ⟨is2, rv2, p2⟩ := qy.at J
  refine call_zip p1 p2 fun g z1 n1 o1 i1 j1 kp => wpAny_pyIter_zip z1 ?_
  have J2 : Inv X pins σ H1 { t with heap := g } := J.kept (t' := t.toks) kp
  exact ⟨t.heap.objs.size + 4, [t.heap.objs.size + 4, t.heap.objs.size + 2, t.heap.objs.size + 3, t.heap.objs.size, t.heap.objs.size + 1], _, _, H1, rfl, J2, turn_zs (PySem.W.ktu_apart t.heap.objs.size a c p1.lt p2.lt), ⟨z1, n1, ⟨_, _, o1⟩, i1, j1⟩, fun d hd => by
    have le : t.heap.objs.size ≤ d := five (P := fun d => t.heap.objs.size ≤ d) hd (Nat.le_add_right _ _) (Nat.le_add_right _ _) (Nat.le_add_right _ _) (Nat.le_refl _) (Nat.le_add_right _ _)
    exact J.fpOk le (J.hok.fresh le), q⟩⟩
/-- a loop over a zip of sequences of one length -/
theorem for_zs {K : PySem.W.Frag} {b b' : Bool} {a c : Addr} {xs ys : List V} {g : TG} {tb : TS} {D : Ends} {σ : L2.St} {H : Hp} (hl : xs.length = ys.length) (Pv : Nat → L2.St → Hp → Prop) (h0 : Pv 0 σ H) (hq : ∀ i σ H, Pv i σ H → SqB K H b a xs ∧ SqB K H b' c ys)
    (hs : ∀ (i : Nat) (x y : V) (T : Addr) (σ : L2.St) (H : Hp), xs[i]? = some x → ys[i]? = some y → Pv i σ H → H T = none → g (.ref T) σ (upd H T (.tup [x, y])) fun σ2 H2 => tb { D with nx := Pv (i + 1), ct := Pv (i + 1), bk := D.nx } σ2 H2) (hd : ∀ σ H, Pv xs.length σ H → D.nx σ H) :
    ∃ W : Nat → Nat → L2.St → Hp → Prop, (∃ m, W 0 m σ H) ∧ ∀ i m σ H, W i m σ H →
      ((Izs K b b' a c xs ys).stop i H ∧ D.nx σ H) ∨ ((Izs K b b' a c xs ys).go i H ∧ ∃ N : L2.St → Hp → Prop, (∀ σ' H', N σ' H' → ∃ m', m' < m ∧ W (i + 1) m' σ' H') ∧ ∀ v H', (Izs K b b' a c xs ys).yld i H v H' → g v σ H' fun σ2 H2 => tb { D with nx := N, ct := N, bk := D.nx } σ2 H2) := by
  refine ⟨fun i m σ H => m + i = xs.length ∧ Pv i σ H, ⟨xs.length, rfl, h0⟩, fun i m σ H ⟨e, pv⟩ => ?_⟩
  match m, e with
  | 0, e =>
    have e' : i = xs.length := by omega
    rw [e'] at pv ⊢
    exact .inl ⟨⟨hq _ _ _ pv, .inl (Nat.le_refl _)⟩, hd _ _ pv⟩
  | m + 1, e =>
    refine .inr ⟨⟨hq _ _ _ pv, by omega, by omega⟩, Pv (i + 1), fun σ' H' p => ⟨m, Nat.lt_succ_self m, by omega, p⟩, fun v H' y => ?_⟩
    obtain ⟨T, x, y, rfl, hT, rfl, hx, hy⟩ := y
    exact hs i x y T σ H hx hy pv hT
end Pz
set_option Elab.async false
set_option linter.all false
set_option maxRecDepth 100000
set_option maxHeartbeats 4000000
namespace Pu
open PySem PySem.Spec PyProof.Rows L2 GxR Evl Pz
variable {K : PySem.W.Frag} {te : TE} {ta : TA} {tt : TT} {σ : L2.St} {H H' : Hp} {xs ys : List V} {a c : Addr} {j k : Nat}
theorem SqB.of (h : SqE K H a xs) : ∃ b, SqB K H b a xs := h.elim (fun q => ⟨true, q⟩) fun q => ⟨false, q⟩
theorem SqB.e {b : Bool} (h : SqB K H b a xs) : SqE K H a xs := by
  cases b with
  | true => exact .inl h
  | false => exact .inr h
theorem SqB.ex {b : Bool} (h : SqB K H b a xs) (e : Ex H H') : SqB K H' b a xs := by
  cases b with
  | true => exact ex_t e h
  | false => exact ex_l e h
theorem walk_zs {b b' : Bool} : Walk (Izs K b b' a c xs ys) (min xs.length ys.length) (fun H => SqB K H b a xs ∧ SqB K H b' c ys) (YPair (fun i => xs[i]?) (fun i => ys[i]?)) := by
  refine ⟨fun i _ hi q => ⟨q, by omega, by omega⟩, fun _ q => ⟨q, by omega⟩, fun i H v H' _ q y => y⟩
/-- slices of either, the whole of a tuple among them -/
theorem es_slA {tl2 th : TO} {lo hi : Option Int} (h : Ev te σ H (.ref a)) (h1 : EvO tl2 σ H lo) (h2 : EvO th σ H hi) (hs : SqE K H a xs) : Es K (tSl (fun x lo hi H Q => rSlL K x lo hi H Q ∨ rSlA K x lo hi H Q) te tl2 th) σ H (cutV xs lo hi) := fun H1 e Q kk =>
  h H1 e _ fun H2 e2 => h1 H2 (e.trans e2) _ fun H3 e3 => h2 H3 ((e.trans e2).trans e3) _ fun H4 e4 => by
    have q := (((hs.ex e).ex e2).ex e3).ex e4
    rcases q with q | q
    · refine .inr ⟨a, xs, rfl, q, fun hw => kk a H4 ((e2.trans e3).trans e4) (.inl ?_), fun _ p hp => kk p _ (((e2.trans e3).trans e4).trans (Ex.new hp)) (.inl (SqT.of upd_same))⟩
      have : cutV xs lo hi = xs := by
        unfold cutV
        rw [hw.1, hw.2, List.drop_zero, Nat.sub_zero, List.take_length]
      rw [this]
      exact q
    · exact .inl ⟨a, xs, rfl, q, fun p hp => kk p _ (((e2.trans e3).trans e4).trans (Ex.new hp)) (.inr (SqL.of upd_same))⟩
theorem wipe_two {x y : V} (h : j ≠ k) : ((wipe σ [j, k]).set j (some x)).set k (some y) = (σ.set j (some x)).set k (some y) := by
  show (((σ.set k none).set j none).set j (some x)).set k (some y) = _
  rw [List.set_set, List.set_comm _ _ (Ne.symm h), List.set_set]
theorem wipe_two' {x y : V} (h : j ≠ k) : wipe ((σ.set j (some x)).set k (some y)) [j, k] = wipe σ [j, k] := by
  show (((σ.set j (some x)).set k (some y)).set k none).set j none = (σ.set k none).set j none
  rw [List.set_set, List.set_comm _ _ h, List.set_set]
/-- [e for a, b in zip(..)] -/
theorem el_lcZ {n : Nat} (v : Nat → V) (hn : n = 2) (hjk : j ≠ k) (hl : xs.length ≤ 40000)
    (h : ∀ H1, Ex H H1 → ∀ Q : List V → Hp → Prop, (∀ a c H2, Ex H1 H2 → SqE K H2 a xs → SqE K H2 c ys → Q [.ref a, .ref c] H2) → ta σ H1 Q)
    (he : ∀ i x y H', xs[i]? = some x → ys[i]? = some y → Ex H H' → Ev te ((σ.set j (some x)).set k (some y)) H' (v i)) :
    EvL (tLc (iZipE K ta) (gSeq K n (gCons (gName j) (gCons (gName k) gNil))) tYes te [j, k]) σ H ((List.range (min xs.length ys.length)).map v) := fun H1 e Q q =>
  h H1 e _ fun a c H2 e2 s1 s2 => by
    obtain ⟨b, q1⟩ := SqB.of s1
    obtain ⟨b', q2⟩ := SqB.of s2
    refine ⟨b, b', a, c, xs, ys, rfl, q1, q2, fun D' hD => ?_⟩
    refine lc_gen walk_zs (fun m H' acc => acc = (List.range m).map v) (by omega) hD (fun _ _ _ _ _ _ r => r) rfl (fun H ex => ⟨SqB.ex q1 ex, SqB.ex q2 ex⟩) ?_ ?_
    · intro i x Ha Hb acc hi ex y hR Qy Qn hy hn'
      obtain ⟨T, u1, u2, rfl, hT, rfl, h1, h2⟩ := y
      have e3 := Ex.new hT (o := .tup [u1, u2])
      subst hn
      refine ⟨T, _, rfl, .inl (SqT.of upd_same), rfl, _, _, rfl, _, _, rfl, rfl, ?_⟩
      rw [wipe_two hjk]
      refine ⟨wipe_two' hjk, yes_then (he i u1 u2 _ h1 h2 (((e.trans e2).trans ex).trans e3) _ (Ex.refl _) _ fun H4 e4 => hy _ _ (e3.trans e4) ?_)⟩
      rw [hR, List.range_succ, List.map_append]
      rfl
    · intro H4 acc e4 hD4 hR
      exact q D' H4 (ex_fresh e2 hD) (e2.trans e4) (by rw [hD4, hR])
end Pu
set_option Elab.async false
set_option linter.all false
set_option maxRecDepth 100000
set_option maxHeartbeats 4000000
namespace Pu
open PySem PySem.Spec PyProof.Rows L2 GxR Evl
variable {K : PySem.W.Frag} {Z : Tx} {M : List Addr} {te : TE} {ta : TA} {σ : L2.St} {H H' H1 : Hp} {acc ys : List V} {p D b : Addr} {j : Nat}
theorem Go.bend (g : Go Z M H H1) (n : H D = none) (hD : H1 D = some (.lst acc)) : Go Z M H (upd H1 D (.lst ys)) := by
  have g2 := g.ok.list hD (H' := upd H1 D (.lst ys)) upd_same fun b o hb e => by rw [upd_ne hb]; exact e
  refine ⟨fun b o hm ht e => ?_, fun b e => g.fr b (g2.fr b e), g2.ok⟩
  rw [upd_ne (ne_of_none e n)]
  exact g.kp b o hm ht e
theorem Go.bendD (h : Z.Ok H1) (hD : H1 D = some (.lst acc)) (hm : D ∈ M) : Go Z M H1 (upd H1 D (.lst ys)) :=
  (h.list hD (H' := upd H1 D (.lst ys)) upd_same fun b o hb e => by rw [upd_ne hb]; exact e).mono fun b hb => by rw [List.mem_singleton.mp hb]; exact hm
theorem BoxAt.ne' (hb : BoxAt H p) (n : H b = none) : b ≠ p := fun z => by
  obtain ⟨g, s, h, _⟩ := hb
  rw [z, h] at n
  cases n
theorem BoxAt.ls (hb : BoxAt H p) : Ls [p] H := by
  obtain ⟨g, s, h, _⟩ := hb
  exact Ls.one h
theorem kp_tup {q : Addr} {xs : List V} (l : Ls M H) (h : H q = some (.tup xs)) : Kp Z M (fun H => H q = some (.tup xs)) H := kp_at (fun hm => by
  obtain ⟨ys, e⟩ := l q hm
  rw [h] at e
  cases e) (fun ps z => by cases z) h
theorem Ls.cons (h : H p = some (.lst acc)) (l : Ls M H) : Ls (p :: M) H := fun m hm => by
  rcases List.mem_cons.mp hm with rfl | hm
  · exact ⟨_, h⟩
  · exact l m hm
/-- [te for _ in range(n)] where te draws from the box at p -/
theorem lc_box (F : V → Hp → Prop) (N : Nat → Prop) (hz : Z.Ok H)
    (h : ∀ Q' : List V → Hp → Prop, (∀ (n : Nat) H0, n ≤ 1000 → N n → Go Z [p] H H0 → BoxAt H0 p → Q' [.int (n : Int)] H0) → ta σ H Q')
    (he : ∀ (i : Nat) (D : Addr) (acc : List V) H', Go Z [p] H H' → BoxAt H' p → H' D = some (.lst acc) → D ≠ p → ∀ Q' : VK, (∀ y H'', Go Z [p] H' H'' → BoxAt H'' p → Kp Z [p, D] (F y) H'' → Q' y H'') → te (σ.set j (some (.int (i : Int)))) H' Q')
    {Q : VK} (k : ∀ (D : Addr) (n : Nat) (acc : List V) H4, N n → acc.length = n → H D = none → Go Z [p] H H4 → BoxAt H4 p → H4 D = some (.lst acc) → Kp Z [p] (fun H => ∀ y ∈ acc, F y H) H4 → D ≠ p → Q (.ref D) H4) :
    tLc (iRng1 ta) (gName j) tYes te [j] σ H Q := by
  refine h _ fun n H0 hn hN g0 hb0 => ⟨n, rfl, by omega, by omega, fun D hD => ?_⟩
  have Dp := hb0.ne' hD
  rw [show ((n : Nat) : Int).toNat = n from Int.toNat_natCast n]
  have HDn : H D = none := g0.fr D hD
  have bx : ∀ {H1 : Hp} {ys : List V}, BoxAt H1 p → BoxAt (upd H1 D (.lst ys)) p := fun {H1 ys} hb => by
    obtain ⟨g, s, h1, h2⟩ := hb
    exact ⟨g, s, by rw [upd_ne (Ne.symm Dp)]; exact h1, h2⟩
  refine lc_inv walk_range (fun i H' acc => acc.length = i ∧ Go Z [p] H H' ∧ BoxAt H' p ∧ Kp Z [p, D] (fun H => ∀ y ∈ acc, F y H) H') (by omega) ?_ (fun _ _ _ _ => trivial) ?_ ?_
  · exact ⟨rfl, (g0.then (Ex.new hD)), bx hb0, fun H' _ y hy => absurd hy List.not_mem_nil⟩
  · intro i x Ha Hb acc hi hDa hR yy Qy Qn hy hn'
    obtain ⟨rfl, rfl⟩ := yy
    obtain ⟨hl, g, hb, kp⟩ := hR
    have es : (wipe σ [j]).set j (some (.int (0 + (i : Nat)))) = σ.set j (some (.int (i : Int))) := by
      show (σ.set j none).set j _ = _
      rw [List.set_set, Int.zero_add]
    refine ⟨wipe1, yes_then ?_⟩
    rw [es]
    refine he i D acc _ g hb hDa Dp _ fun y H4 g4 hb4 ky => ?_
    have hD4 : H4 D = some (.lst acc) := g4.kp D _ (fun z => Dp (List.mem_singleton.mp z)) (fun ps z => by cases z) hDa
    refine hy y H4 hD4 ⟨by rw [List.length_append, List.length_singleton, hl], (g.trans g4).bend HDn hD4, bx hb4, ?_⟩
    have st : Go Z [p, D] H4 (upd H4 D (.lst (acc ++ [y]))) := Go.bendD g4.ok hD4 (List.mem_cons_of_mem _ (List.mem_singleton.mpr rfl))
    have k1 := (kp.go (g4.mono fun b hb => by rw [List.mem_singleton.mp hb]; exact List.mem_cons_self ..)).go st
    have k2 := ky.go st
    intro H5 g5 z hz5
    rcases List.mem_append.mp hz5 with h5 | h5
    · exact k1 H5 g5 z h5
    · rw [List.mem_singleton.mp h5]
      exact k2 H5 g5
  · intro H4 acc hD4 hR
    obtain ⟨hl, g, hb, kp⟩ := hR
    exact k D n acc H4 hN hl HDn g hb hD4 (kp.mono fun b hb => by rw [List.mem_singleton.mp hb]; exact List.mem_cons_self ..) Dp
end Pu
set_option Elab.async false
set_option linter.all false
set_option maxRecDepth 100000
set_option maxHeartbeats 4000000
namespace Pu
open PySem PySem.Spec PyProof.Rows L2 GxR Evl
variable {K : PySem.W.Frag} {te tl tr : TE} {ta : TA} {σ : L2.St} {H H' : Hp} {xs : List V} {a : Addr}
theorem ev_callW {sp : Sp} {gV : List V → List V} {vs : List V} {E : XK} {z : V} (h : EvA ta σ H vs) (hs : SpV sp (gV vs) H z) : Ev (tCallW sp gV E ta) σ H z := fun H1 e Q q =>
  h H1 e _ fun H2 e2 => hs H2 (e.trans e2) Q (fun H3 e3 => q H3 (e2.trans e3)) E
theorem rv_neS {t : Str} : RV rNe (.str t) (.str t) H (.bl false) := by
  have := rv_ne (H := H) (x := .str t) (y := .str t) rfl
  rw [decide_eq_true rfl] at this
  exact this
theorem rv_neI {i : Int} : RV rNe (.int i) (.int i) H (.bl false) := by
  have := rv_ne (H := H) (x := .int i) (y := .int i) rfl
  rw [decide_eq_true rfl] at this
  exact this
theorem et_neS {t : Str} (h1 : Ev tl σ H (.str t)) (h2 : Ev tr σ H (.str t)) : EvT (tTest (tOp rNe tl tr)) σ H false := et_test (ev_op h1 h2 rv_neS)
/-- list(a new tuple) -/
theorem el_listU (u : EvU te σ H xs) : EvL (tCB (rListOf K) (tCons te tNil)) σ H xs := fun H1 e Q q =>
  u H1 e _ fun p H2 hp e2 h2 => ⟨p, xs, rfl, .inr (SqT.of h2), fun l hl => q l _ (ex_fresh e2 hl) (e2.trans (Ex.new hl)) upd_same⟩
theorem Sm.bl (b : Bool) : Sm 0 0 (.bool b) := by
  cases b <;> exact ⟨Nat.le_refl _, Nat.le_refl _, by decide +kernel, rfl, rfl⟩
/-- repr of a new list -/
theorem ev_reprL {d : PyData} {n m : Nat} (el : EvL te σ H xs) (h : ∀ p H1, Ex H H1 → H1 p = some (.lst xs) → Dp K H1 (.ref p) d) (hd : isDisplay d = true) (s : Sm n m d) (hn : n ≤ 60) (hm : m ≤ 1000000) : Ev (tCB (rRepr K) (tCons te tNil)) σ H (.str d.shown) :=
  fun H1 e Q q => el H1 e _ fun p H2 _ e2 h2 => rc_repr (h p H2 (e.trans e2) h2) hd s hn hm (q H2 e2)
end Pu
namespace Pu
open PySem PySem.Spec PyProof.Rows L2 GxR Evl
theorem BoxAt.go0 {Z : Tx} {H H' : Hp} {p : Addr} (hb : BoxAt H p) (g : Go Z [] H H') : BoxAt H' p := by
  obtain ⟨gg, ss, b1, b2⟩ := hb
  exact ⟨gg, ss, g.kp _ _ List.not_mem_nil (fun ps z => by cases z) b1, b2⟩
/-- x is not False, x a truth -/
theorem op_isNotF {X : Cx} : OpR X (compareOp .IsNot) (fun x y H Q => ∃ b, x = .bl b ∧ y = .bl false ∧ Q (.bl b) H) := by
  intro pins s σ H x y v u Q I rx ry h
  obtain ⟨b, rfl, rfl, q⟩ := h
  cases (show v = Value.bool b from rx)
  cases (show u = Value.bool false from ry)
  refine wpAny_isNot_plain rfl ?_
  have e : (!(Value.bool b == Value.bool false)) = b := by cases b <;> rfl
  rw [e]
  exact ⟨.bl b, H, I, rfl, q⟩
end Pu
namespace Pu
open PySem PySem.Spec PyProof.Rows L2 GxR Evl
theorem t_cons1 {te : TE} {σ : L2.St} {H : Hp} {Q : List V → Hp → Prop} (h : te σ H fun x H1 => Q [x] H1) : tCons te tNil σ H Q := h
theorem t_callW1 {sp : Sp} {gV : List V → List V} {E : XK} {te : TE} {σ : L2.St} {H : Hp} {Q : VK} (h : te σ H fun x H1 => sp (gV [x]) H1 Q E) : tCallW sp gV E (tCons te tNil) σ H Q := h
theorem t_cb1 {r : List V → Hp → VK → Prop} {te : TE} {σ : L2.St} {H : Hp} {Q : VK} (h : te σ H fun x H1 => r [x] H1 Q) : tCB r (tCons te tNil) σ H Q := h
end Pu
namespace Pu
open PySem PySem.Spec PyProof.Rows L2 GxR Evl
/-- tuple(a new list) -/
theorem eu_tupleL {K : PySem.W.Frag} {te : TE} {σ : L2.St} {H : Hp} {xs : List V} (el : EvL te σ H xs) :
    EvU (tCB (fun xs H Q => ∃ p ys, xs = [V.ref p] ∧ ((SqL K H p ys ∧ ∀ l, H l = none → Q (V.ref l) (upd H l (.tup ys))) ∨ (SqT K H p ys ∧ Q (V.ref p) H))) (tCons te tNil)) σ H xs := fun H1 e Q q =>
  el H1 e _ fun p H2 hp e2 h2 => ⟨p, xs, rfl, .inl ⟨SqL.of h2, fun l hl => q l _ (ex_fresh e2 hl) (e2.trans (Ex.new hl)) upd_same⟩⟩
end Pu
set_option Elab.async false
set_option linter.all false
set_option maxRecDepth 100000
set_option maxHeartbeats 4000000
namespace Pu
open PySem PySem.Spec PyProof.Rows L2 GxR Evl
theorem ch_ok (c : Char) : c.toNat < 0x110000 := by
  have := c.valid
  unfold UInt32.isValidChar Nat.isValidChar at this
  show c.val.toNat < _
  omega
theorem ok_str (s : String) : PyData.strOk (Str.ofString s) = true := by
  rw [Str.ofString_eq_toList]
  unfold PyData.strOk
  rw [List.all_toArray, List.all_eq_true]
  intro x hx
  obtain ⟨c, _, rfl⟩ := List.mem_map.mp hx
  exact decide_eq_true (ch_ok c)
theorem ok_app {a b : Str} (h : PyData.strOk a = true) (k : PyData.strOk b = true) : PyData.strOk (a ++ b) = true := by
  unfold PyData.strOk at *
  show (a.cps ++ b.cps).all _ = true
  rw [Array.all_append, h, k]
  rfl
theorem ok_from : ∀ (ts : List Str) (k : Nat) (acc : Str), PyData.strOk acc = true → (∀ t ∈ ts, PyData.strOk t = true) → PyData.strOk (textFrom k acc ts) = true
  | [], k, acc, h, _ => h
  | t :: r, k, acc, h, ht => ok_from r (k + 1) _ (ok_app (ok_app h (ok_str _)) (ht t (List.mem_cons_self ..))) fun x hx => ht x (List.mem_cons_of_mem _ hx)
theorem ok_join : ∀ ts : List Str, (∀ t ∈ ts, PyData.strOk t = true) → PyData.strOk (Str.join ", " ts) = true
  | [], _ => by decide +kernel
  | [x], h => h x (List.mem_cons_self ..)
  | x :: y :: r, h => by
    show PyData.strOk (x ++ ", " ++ Str.join ", " (y :: r)) = true
    exact ok_app (ok_app (h x (List.mem_cons_self ..)) (ok_str _)) (ok_join (y :: r) fun t ht => h t (List.mem_cons_of_mem _ ht))
mutual
def noStr : PyData → Bool
  | .none | .bool _ | .int _ => true
  | .list xs | .tuple xs => noStrs xs
  | _ => false
def noStrs : List PyData → Bool
  | [] => true
  | x :: xs => noStr x && noStrs xs
end
mutual
theorem ok_shown : ∀ d : PyData, noStr d = true → PyData.strOk d.shown = true
  | .none, _ => ok_str "None"
  | .bool b, _ => by cases b <;> exact ok_str _
  | .int i, _ => ok_str _
  | .list xs, h => ok_app (ok_from _ 0 "[" (ok_str _) (ok_shownAll xs h)) (ok_str _)
  | .tuple xs, h => ok_app (ok_app (ok_str _) (ok_join _ (ok_shownAll xs h))) (ok_str _)
  | .str _, h => nomatch h
  | .dict _, h => nomatch h
theorem ok_shownAll : ∀ ds : List PyData, noStrs ds = true → ∀ t ∈ PyData.shownAll ds, PyData.strOk t = true
  | [], _, t, ht => absurd ht List.not_mem_nil
  | d :: ds, h, t, ht => by
    have h' : (noStr d && noStrs ds) = true := h
    rcases List.mem_cons.mp ht with rfl | ht
    · exact ok_shown d (Bool.and_eq_true_iff.mp h').1
    · exact ok_shownAll ds (Bool.and_eq_true_iff.mp h').2 t ht
end
def dRef (s : Str) : PyData := .tuple [.str "refused", .str s, .bool true]
theorem dRef_lay {s : Str} (h : PyData.strOk s = true) : PyData.canLay0 (dRef s) = true := by
  unfold dRef
  simp only [PyData.canLay0, PyData.canLayAll0, h, Bool.and_true]
  exact ok_str _
theorem dRef_shaped {s : Str} (h : PyData.strOk s = true) : SeqAt.shaped (dRef s) = true := by
  have h2 : PyData.depth (dRef s) = 1 := by
    unfold dRef
    simp [PyData.depth, PyData.depthAll]
  unfold SeqAt.shaped
  rw [dRef_lay h, h2]
  rfl
theorem dRef_eqv {s : Str} (h : PyData.strOk s = true) : PyData.eqv (dRef s) (dRef s) = true := SeqAt.eqv_refl_plain _ (PyData.plain_of_canLay0 _ (dRef_lay h))
theorem lam_pass {X : Cx} {A : Around} {outer : List Env} {s : Shared} {H : Hp} {E : XK} {scope : Scope} {f c' : Addr} : Passes (L2.CX X.prog X.w) (LamX.lamCx X A outer s H E scope f c') E :=
  passes_call (takes_of (X := LamX.lamCx X A outer s H E scope f c') rfl rfl rfl rfl) fun _ _ _ _ h => h
end Pu
set_option linter.all false
set_option maxRecDepth 100000
/-! bounds of shapes, by numbers (law k11) -/
namespace Sh
/-- counts, by structural steps -/
def cnt : Nat → Nat → Nat → List Nat
  | 0, _, _ => []
  | u + 1, k, m => if k < m ∧ 2 ≤ k then (k - (m - k) % 2) :: cnt u k ((m - (k - (m - k) % 2)) / 2) else if 0 < m then [m] else []
theorem cnt_eq : ∀ (u k m : Nat), m ≤ u → cnt u k m = counts k m
  | 0, k, m, h => by
    have : m = 0 := by omega
    subst this
    rw [counts_zero]
    rfl
  | u + 1, k, m, h => by
    rw [counts]
    show (if k < m ∧ 2 ≤ k then _ else _) = _
    split
    · rename_i z
      rw [cnt_eq u k _ (by omega)]
    · rename_i z
      rfl
def shF (k n : Nat) : List (Nat × Nat) := sh 0 (cnt 64 k n) 1
theorem sh_shift : ∀ (cs : List Nat) (s f g : Nat), sh (g + f) cs s = (sh f cs s).map fun p => (g + p.1, p.2)
  | [], _, _, _ => rfl
  | c :: cs, s, f, g => by
    show sh (g + f) cs (2 * s) ++ _ = (sh f cs (2 * s) ++ _).map _
    rw [sh_shift cs (2 * s) f g, List.map_append, List.map_map]
    congr 1
    apply List.map_congr_left
    intro j _
    show (g + f + tot cs (2 * s) + s * j, s) = (g + (f + tot cs (2 * s) + s * j), s)
    rw [Prod.mk.injEq]
    exact ⟨by omega, rfl⟩
theorem shF_eq {k n : Nat} (h : n ≤ 64) : shF k n = shp k 0 n := by
  unfold shF shp
  rw [cnt_eq 64 k n h]
  rfl
theorem shp_shift {k f l : Nat} (h : l - f ≤ 64) : shp k f l = (shF k (l - f)).map fun p => (f + p.1, p.2) := by
  rw [shF_eq h]
  unfold shp
  rw [show l - f - 0 = l - f by omega]
  have := sh_shift (counts k (l - f)) 1 0 f
  rw [Nat.add_zero] at this
  exact this
/-- most_many, by steps -/
def mmG (k a : Nat) : Nat → Nat → Nat
  | 0, m => m
  | u + 1, m => if (k - 1) * (2 * m - 1) ≤ a then mmG k a u (m * 2) else m
def mm (k a : Nat) : Nat := mmG k a 10 1
def msG (k : Nat) : Nat → Nat → Nat → Nat → Nat
  | 0, spans, size, left => spans + left / size
  | u + 1, spans, size, left => if k * size ≤ left then msG k u (spans + k) (size * 2) (left - k * size) else spans + left / size
def ms (k r : Nat) : Nat := msG k 10 0 1 r
def hasR (r : Nat) (p : Nat × Nat) : Bool := decide (p.1 ≤ r) && decide (r < p.1 + p.2)
/-- the greatest span with a row of that age, of so many laid -/
def sizesAt (k a l : Nat) : List Nat := ((shF k l).filter (hasR (l - 1 - a))).map (·.2)
def grU (k a : Nat) : Nat → Nat
  | 0 => 0
  | l + 1 => if a < l + 1 then (sizesAt k a (l + 1)).foldl max (grU k a l) else grU k a l
def nsU (k a : Nat) : Nat → Nat
  | 0 => 0
  | l + 1 => if l + 1 ≤ a + 3 then max (nsU k a l) (shF k (l + 1)).length else nsU k a l
def descB : List Nat → Bool
  | [] => true
  | [_] => true
  | x :: y :: r => decide (y ≤ x) && descB (y :: r)
def okBounds (k a : Nat) : Bool := decide (grU k a (a + 40) = mm k a) && (decide (mm k a ≤ 1 + a / (k - 1)) && decide (nsU k a (a + 40) = ms k (a + 3)))
theorem bounds_all : ((List.range 7).all fun k => (List.range 25).all fun a => okBounds (k + 2) a) = true := by decide +kernel
theorem desc_all : ((List.range 7).all fun k => (List.range 65).all fun n => descB ((shF (k + 2) n).map (·.2))) = true := by decide +kernel
theorem age_all : ((List.range 7).all fun k => (List.range 41).all fun n => (shF (k + 2) n).all fun p => decide (p.2 ≤ mm (k + 2) (n - p.1 - p.2))) = true := by decide +kernel
theorem coarse_all : ((List.range 7).all fun k => (List.range 41).all fun n => (shF (k + 2) n).all fun p => (shF (k + 2) (n + 1)).any fun q => decide (q.1 ≤ p.1) && decide (p.1 + p.2 ≤ q.1 + q.2)) = true := by decide +kernel
theorem all7 {P : Nat → Bool} (h : ((List.range 7).all fun k => P (k + 2)) = true) {k : Nat} (h2 : 2 ≤ k) (h8 : k ≤ 8) : P k = true := by
  have := List.all_eq_true.mp h (k - 2) (List.mem_range.mpr (by omega))
  rwa [show k - 2 + 2 = k by omega] at this
theorem allN {N : Nat} {P : Nat → Bool} (h : (List.range N).all P = true) {n : Nat} (hn : n < N) : P n = true := List.all_eq_true.mp h n (List.mem_range.mpr hn)
theorem bounds {k a : Nat} (h2 : 2 ≤ k) (h8 : k ≤ 8) (ha : a < 25) : grU k a (a + 40) = mm k a ∧ mm k a ≤ 1 + a / (k - 1) ∧ nsU k a (a + 40) = ms k (a + 3) := by
  have h := allN (all7 (P := fun k => (List.range 25).all fun a => okBounds k a) bounds_all h2 h8) ha
  unfold okBounds at h
  simp only [Bool.and_eq_true, decide_eq_true_eq] at h
  exact h
theorem desc {k n : Nat} (h2 : 2 ≤ k) (h8 : k ≤ 8) (hn : n < 65) : descB ((shF k n).map (·.2)) = true := allN (all7 (P := fun k => (List.range 65).all fun n => descB ((shF k n).map (·.2))) desc_all h2 h8) hn
theorem aged {k f l : Nat} (h2 : 2 ≤ k) (h8 : k ≤ 8) (hf : f ≤ l) (hn : l - f < 41) {p : Nat × Nat} (hp : p ∈ shp k f l) : p.2 ≤ mm k (l - p.1 - p.2) := by
  rw [shp_shift (by omega)] at hp
  obtain ⟨q, hq, rfl⟩ := List.mem_map.mp hp
  have h := allN (all7 (P := fun k => (List.range 41).all fun n => (shF k n).all fun p => decide (p.2 ≤ mm k (n - p.1 - p.2))) age_all h2 h8) hn
  have := of_decide_eq_true (List.all_eq_true.mp h q hq)
  show q.2 ≤ mm k (l - (f + q.1) - q.2)
  rwa [show l - (f + q.1) - q.2 = l - f - q.1 - q.2 by omega]
theorem coarse {k f l : Nat} (h2 : 2 ≤ k) (h8 : k ≤ 8) (hf : f ≤ l) (hn : l - f < 41) {p : Nat × Nat} (hp : p ∈ shp k f l) : ∃ q ∈ shp k f (l + 1), q.1 ≤ p.1 ∧ p.1 + p.2 ≤ q.1 + q.2 := by
  rw [shp_shift (by omega)] at hp
  obtain ⟨p0, hp0, rfl⟩ := List.mem_map.mp hp
  have h := allN (all7 (P := fun k => (List.range 41).all fun n => (shF k n).all fun p => (shF k (n + 1)).any fun q => decide (q.1 ≤ p.1) && decide (p.1 + p.2 ≤ q.1 + q.2)) coarse_all h2 h8) hn
  obtain ⟨q, hq, e⟩ := List.any_eq_true.mp (List.all_eq_true.mp h p0 hp0)
  simp only [Bool.and_eq_true, decide_eq_true_eq] at e
  refine ⟨(f + q.1, q.2), ?_, by show f + q.1 ≤ f + p0.1; omega, by show f + p0.1 + p0.2 ≤ f + q.1 + q.2; omega⟩
  rw [shp_shift (by omega), show l + 1 - f = l - f + 1 by omega]
  exact List.mem_map.mpr ⟨q, hq, rfl⟩
/-! ### spans that one store had -/
def Apart (p q : Nat × Nat) : Prop := p.1 + p.2 ≤ q.1 ∨ q.1 + q.2 ≤ p.1
def Inside (p q : Nat × Nat) : Prop := q.1 ≤ p.1 ∧ p.1 + p.2 ≤ q.1 + q.2
/-- any two seen are nested or apart; each seen lies in a present one or ahead of the first row -/
structure Seen (k f l : Nat) (S : List (Nat × Nat)) : Prop where
  two : ∀ p ∈ S, ∀ q ∈ S, Apart p q ∨ Inside p q ∨ Inside q p
  at_ : ∀ p ∈ S, p.1 + p.2 ≤ f ∨ ∃ q ∈ shp k f l, Inside p q
  pos : ∀ p ∈ S, 1 ≤ p.2 ∧ p.1 + p.2 ≤ l
theorem apart_of {L : List (Nat × Nat)} (h : L.Pairwise fun a b => a.1 + a.2 ≤ b.1) {p q : Nat × Nat} (hp : p ∈ L) (hq : q ∈ L) : p = q ∨ Apart p q := by
  induction h with
  | nil => cases hp
  | @cons x L h1 h2 ih =>
    rcases List.mem_cons.mp hp with e1 | hp
    · rcases List.mem_cons.mp hq with e2 | hq
      · exact .inl (e1.trans e2.symm)
      · exact .inr (.inl (e1 ▸ h1 q hq))
    · rcases List.mem_cons.mp hq with e2 | hq
      · exact .inr (.inr (e2 ▸ h1 p hp))
      · exact ih hp hq
theorem in_shp {k f l : Nat} {p q : Nat × Nat} (hp : p ∈ shp k f l) (hq : q ∈ shp k f l) : p = q ∨ Apart p q := apart_of (sh_pair _ _ _) hp hq
theorem Seen.nil {k f l : Nat} : Seen k f l [] := ⟨fun _ h => absurd h List.not_mem_nil, fun _ h => absurd h List.not_mem_nil, fun _ h => absurd h List.not_mem_nil⟩
/-- a row is laid; some of the present spans are seen too -/
theorem Seen.lay {k f l : Nat} {S S' : List (Nat × Nat)} (s : Seen k f l S) (h2 : 2 ≤ k) (h8 : k ≤ 8) (hf : f ≤ l) (hn : l - f < 41) (hS : ∀ p ∈ S', p ∈ S ∨ p ∈ shp k f (l + 1)) : Seen k f (l + 1) S' := by
  have old : ∀ p ∈ S, p.1 + p.2 ≤ f ∨ ∃ q ∈ shp k f (l + 1), Inside p q := fun p hp => by
    rcases s.at_ p hp with h | ⟨q, hq, h⟩
    · exact .inl h
    · obtain ⟨r, hr, a, b⟩ := coarse h2 h8 hf hn hq
      exact .inr ⟨r, hr, Nat.le_trans a h.1, Nat.le_trans h.2 b⟩
  have mix : ∀ p ∈ S, ∀ q ∈ shp k f (l + 1), Apart p q ∨ Inside p q ∨ Inside q p := fun p hp q hq => by
    have m := shp_mem h2 (by omega) hq
    rcases old p hp with h | ⟨r, hr, h⟩
    · exact .inl (.inl (by omega))
    · rcases in_shp hr hq with e | e
      · exact .inr (.inl (e ▸ h))
      · refine .inl ?_
        unfold Apart at e ⊢
        unfold Inside at h
        omega
  refine ⟨fun p hp q hq => ?_, fun p hp => ?_, fun p hp => ?_⟩
  · rcases hS p hp with hp | hp
    · rcases hS q hq with hq | hq
      · exact s.two p hp q hq
      · exact mix p hp q hq
    · rcases hS q hq with hq | hq
      · rcases mix q hq p hp with h | h | h
        · exact .inl (h.symm)
        · exact .inr (.inr h)
        · exact .inr (.inl h)
      · rcases in_shp hp hq with e | e
        · exact .inr (.inl (e ▸ ⟨Nat.le_refl _, Nat.le_refl _⟩))
        · exact .inl e
  · rcases hS p hp with hp | hp
    · exact old p hp
    · exact .inr ⟨p, hp, Nat.le_refl _, Nat.le_refl _⟩
  · rcases hS p hp with hp | hp
    · have := s.pos p hp
      omega
    · have := shp_mem h2 (show f ≤ l + 1 by omega) hp
      omega
/-- some are let go -/
theorem Seen.go {k f l b : Nat} {S : List (Nat × Nat)} (s : Seen k f l S) (h2 : 2 ≤ k) (hf : f ≤ l) : Seen k (firstOf (gone b (shp k f l)) l) l S := by
  obtain ⟨e1, e2⟩ := gone_shp (b := b) h2 hf
  refine ⟨s.two, fun p hp => ?_, s.pos⟩
  generalize hg : firstOf (gone b (shp k f l)) l = g at *
  by_cases e : l - f = 0
  · left
    have := (s.pos p hp)
    rcases s.at_ p hp with h | ⟨q, hq, h⟩
    · have : gone b (shp k f l) = [] := by
        have z : shp k f l = [] := by
          unfold shp
          rw [e, counts_zero]
          rfl
        rw [z]
        rfl
      rw [this] at hg
      have hg : l = g := hg
      omega
    · exfalso
      have z : shp k f l = [] := by
        unfold shp
        rw [e, counts_zero]
        rfl
      rw [z] at hq
      cases hq
  · rcases s.at_ p hp with h | ⟨q, hq, h⟩
    · left
      -- the first row present is not ahead of f
      rcases hG : gone b (shp k f l) with _ | ⟨r, R⟩
      · rw [hG] at hg
        have hg : l = g := hg
        omega
      · rw [hG] at hg
        have hg : r.1 = g := hg
        have hr : r ∈ gone b (shp k f l) := by rw [hG]; exact List.mem_cons_self ..
        have := shp_mem h2 hf (List.mem_filter.mp hr).1
        omega
    · by_cases hb : b < q.1 + q.2
      · right
        refine ⟨q, ?_, h⟩
        rw [← e2]
        exact List.mem_filter.mpr ⟨hq, decide_eq_true hb⟩
      · left
        have hx : q.1 + q.2 ≤ g := by
          rcases hG : gone b (shp k f l) with _ | ⟨r, R⟩
          · rw [hG] at hg
            have hg : l = g := hg
            have := shp_mem h2 hf hq
            omega
          · rw [hG] at hg
            have hg : r.1 = g := hg
            have hr : r ∈ gone b (shp k f l) := by rw [hG]; exact List.mem_cons_self ..
            obtain ⟨hr1, hr2⟩ := List.mem_filter.mp hr
            have hr2 := of_decide_eq_true hr2
            rcases in_shp hq hr1 with z | z
            · rw [← z] at hr2
              exact absurd hr2 hb
            · unfold Apart at z
              rcases z with z | z
              · omega
              · have := shp_mem h2 hf hq
                omega
        have := h.2
        omega
/-- what the law finds crossed -/
def crossB (p q : Nat × Nat) : Bool := decide (max p.1 q.1 < min (p.1 + p.2) (q.1 + q.2)) && decide (min (p.1 + p.2) (q.1 + q.2) - max p.1 q.1 < min p.2 q.2)
theorem Seen.cross {k f l : Nat} {S : List (Nat × Nat)} (s : Seen k f l S) {p q : Nat × Nat} (hp : p ∈ S) (hq : q ∈ S) : crossB p q = false := by
  have h := s.two p hp q hq
  unfold Apart Inside at h
  unfold crossB
  rw [Bool.and_eq_false_iff, decide_eq_false_iff_not, decide_eq_false_iff_not]
  omega
theorem nsU_le {k a : Nat} (hk : 2 ≤ k) : ∀ {l : Nat}, l ≤ 64 → nsU k a l ≤ 64
  | 0, _ => by show 0 ≤ 64; decide
  | l + 1, h => by
    have ih := nsU_le hk (show l ≤ 64 by omega) (a := a)
    have hs : (shF k (l + 1)).length ≤ 64 := by
      rw [shF_eq h]
      exact Nat.le_trans (shp_len hk) (by omega)
    show (if l + 1 ≤ a + 3 then max _ _ else _) ≤ 64
    split <;> omega
end Sh
set_option Elab.async false
set_option linter.all false
set_option maxRecDepth 100000
set_option maxHeartbeats 4000000
namespace K11
open PySem PySem.Spec PyProof.Rows L2 GxR Pu Evl
theorem flat_ty {g : Heap} {x : V} (h : flatV x = true) : ∃ t, TyG g x t ∧ isSeq t = false := by
  cases x with
  | non => exact ⟨_, .non, by decide⟩
  | bl b => exact ⟨_, .bl b, by decide⟩
  | int i => exact ⟨_, .int i, by decide⟩
  | str s => exact ⟨_, .str s, by decide⟩
  | _ => cases h
def intB : V → Bool
  | .int _ => true
  | _ => false
theorem ty_int {g : Heap} {x : V} {t : String} (ty : TyG g x t) : (t == "int") = intB x := by
  cases ty <;> first | rfl | decide
def keepB : V → Bool
  | .int i => decide (2 ≤ i) && decide (i ≤ 8)
  | _ => false
def pKeepF : List V → Heap → V → Prop := fun vs g v => ∃ x t, vs = [x] ∧ TyG g x t ∧ v = .bl (keepB x)
section
variable {P : Program} {w : World} {K : PySem.W.Frag} {mg : Str → Option Value} {base : Heap} {Z : Tx}
variable {fNum fInt fIK fNK fNN fI C : Addr} {dNum dInt dIK dNK dNN dI : FuncData}
theorem pf_is_keep {f : Addr} {fd : FuncData} (M : L2.Mod K mg base) (G : Mg mg) (F : Fun K "is_keep" "is_keep" sIsKeep f fd) (F1 : Fns K mg "is_integer" ["value"] sIsInteger fInt dInt) : PF P w K mg base 2 f fd ["value"] pKeepF := by
  have G1 : PF P w K mg base 1 fInt dInt ["value"] pInteger := pf_is_integer M G F1.fn
  refine pf_ret M F scIsKeep rfl (by decide +kernel) (fun cdv A L g us vs v hr hx r hl h hn => ?_) fun vs g h v e q => ?_
  · obtain ⟨x, t, rfl, ty, rfl⟩ := h
    obtain ⟨u, rfl, ru⟩ := vals1 r
    obtain ⟨m, ns, hm⟩ := hn 0 "value" u rfl rfl
    have FR : FrP K mg base A (envOfC "is_keep" (defScope sIsKeep) L f cdv) g := ⟨M, hx, rfl, rfl, rfl, hr.hd⟩
    have val : ∀ {pos : Pos}, EV P w A (envOfC "is_keep" (defScope sIsKeep) L f cdv) g (.Name "value" pos) x := ev_loc FR rfl ns hm ru
    have one : ∀ {p q pos : Pos}, EV P w A (envOfC "is_keep" (defScope sIsKeep) L f cdv) g (.Call (.Name "is_integer" p) [.Name "value" q] [] pos) (.bl (intB x)) := fun {p q pos} =>
      ev_pf FR G1 hr rfl F1.mg F1.fn.kp F1.bd (Pu.ea_cons val Pu.ea_nil) rfl fun h e => ⟨x, t, rfl, ty.mono e, by rw [ty_int ty]⟩
    cases x with
    | int i => exact ev_and (x := true) one fun _ => ev_one (ev_chain ev_int val ev_int)
    | _ => exact ev_and (x := false) (y := false) one fun h => nomatch h
  · obtain ⟨x, t, h1, h2, h3⟩ := q
    exact ⟨x, t, h1, h2.mono e, h3⟩
structure Cal (P : Program) (w : World) (K : PySem.W.Frag) (mg : Str → Option Value) (base : Heap) (x : Str) (ps : List Str) (st : Stmt) (k : Nat) (sp : Sp) (f : Addr) (fd : FuncData) : Prop where
  ns : Fns K mg x ps st f fd
  ok : FnOk P w K mg base CX0 k f fd ps sp
structure CalX (P : Program) (w : World) (K : PySem.W.Frag) (mg : Str → Option Value) (base : Heap) (x : Str) (ps : List Str) (st : Stmt) (k : Nat) (sp : Sp) (f : Addr) (fd : FuncData) : Prop where
  ns : Fns K mg x ps st f fd
  ok : FnOk P w K mg base (L2.CX P w) k f fd ps sp
abbrev nValue : List Str := ["value"]
abbrev nKeep : List Str := ["keep"]
/-- a flat value passes by a test, another is refused -/
def spNeed (K : PySem.W.Frag) (Z : Tx) (C : Addr) (B : V → Bool) : Sp := fun vs H Q E => ∃ x, vs = [x] ∧ Z.Ok H ∧ flatV x = true ∧
  ((B x = false ∧ ∀ d H', Go Z [] H H' → H' d = none → E (.ref C) (some d) (upd H' d (.xd [("at", x)]))) ∨ (B x = true ∧ ∀ H', Ex H H' → Q .non H'))
theorem ok_needN {f : Addr} {fd : FuncData} (M : L2.Mod K mg base) (G : Mg mg) (R : RefC K C fI) (FI : FnOk P w K mg base CX0 1 fI dI ["self", "at"] (spInitAt C)) (bI : Binds K dI ["self", "at"] []) (mC : mg "Refused" = some (.ref C))
    (F : Fun K "need_number" "need_number" sNeedNumber f fd) (C1 : Cal P w K mg base "is_number" ["value"] sIsNumber 2 (spPure P w base ["value"] pNumber) fNum dNum) : FnOk P w K mg base (L2.CX P w) 3 f fd ["value"] (spNeed K Z C isNum) := by
  refine F.okX scNeedNumber (fun vs H Q E h => ?_) (fun cdv A outer s H vs Q E hr h => ?_)
  · obtain ⟨x, rfl, _⟩ := h
    rfl
  · obtain ⟨x, rfl, hz, fx, h⟩ := h
    have tk : Takes (cxOf (L2.CX P w) P w K mg base nValue "need_number" (defScope sNeedNumber) f cdv A outer s H E) (fun cls d _ H' => E cls d H') := takes_of (X := cxOf (L2.CX P w) P w K mg base nValue "need_number" (defScope sNeedNumber) f cdv A outer s H E) rfl rfl rfl rfl
    refine ⟨_, (pss_one (ps_if (pt_not (pt_val (pe_call C1.ok (hr.mono (by decide)) (by rfl) C1.ns.mg C1.ns.fn.kp C1.ns.bd .nil pass0 (pa_cons (pv 0) pa_nil)))) (pss_one (ps_ref R FI (hr.mono (by decide)) bI rfl tk rfl mC (pv 0))) pss_nil)), ?_⟩
    have e1 : Ev (tCall (spPure P w base ["value"] pNumber) [] E0 (tCons (tVar 0) tNil)) (start nValue [x]) H (.bl (isNum x)) :=
      ev_call (ea_cons (ev_var rfl) ea_nil) (spPure.use rfl fun H1 _ g _ _ => by
        obtain ⟨t, ty, _⟩ := flat_ty (g := g) fx
        exact ⟨x, t, rfl, ty, rfl⟩)
    refine e1 H (Ex.refl H) _ fun H1 x1 => ⟨isNum x, rfl, ?_⟩
    rcases h with ⟨hn, kE⟩ | ⟨hn, kQ⟩
    · refine ite2 (fun _ => ?_) fun z => absurd (by rw [hn]; rfl) z
      exact ⟨x, rfl, fun d hd => kE d H1 (Go.ex hz x1) hd⟩
    · refine ite2 (fun z => absurd z (by rw [hn]; simp)) fun _ => kQ H1 x1
theorem ok_needK {f : Addr} {fd : FuncData} (R : RefC K C fI) (FI : FnOk P w K mg base CX0 1 fI dI ["self", "at"] (spInitAt C)) (bI : Binds K dI ["self", "at"] []) (mC : mg "Refused" = some (.ref C))
    (F : Fun K "need_keep" "need_keep" sNeedKeep f fd) (C1 : Cal P w K mg base "is_keep" ["value"] sIsKeep 2 (spPure P w base ["value"] pKeepF) fIK dIK) : FnOk P w K mg base (L2.CX P w) 3 f fd ["keep"] (spNeed K Z C keepB) := by
  refine F.okX scNeedKeep (fun vs H Q E h => ?_) (fun cdv A outer s H vs Q E hr h => ?_)
  · obtain ⟨x, rfl, _⟩ := h
    rfl
  · obtain ⟨x, rfl, hz, fx, h⟩ := h
    have tk : Takes (cxOf (L2.CX P w) P w K mg base nKeep "need_keep" (defScope sNeedKeep) f cdv A outer s H E) (fun cls d _ H' => E cls d H') := takes_of (X := cxOf (L2.CX P w) P w K mg base nKeep "need_keep" (defScope sNeedKeep) f cdv A outer s H E) rfl rfl rfl rfl
    refine ⟨_, (pss_one (ps_if (pt_not (pt_val (pe_call C1.ok (hr.mono (by decide)) (by rfl) C1.ns.mg C1.ns.fn.kp C1.ns.bd .nil pass0 (pa_cons (pv 0) pa_nil)))) (pss_one (ps_ref R FI (hr.mono (by decide)) bI rfl tk rfl mC (pv 0))) pss_nil)), ?_⟩
    have e1 : Ev (tCall (spPure P w base ["value"] pKeepF) [] E0 (tCons (tVar 0) tNil)) (start nKeep [x]) H (.bl (keepB x)) :=
      ev_call (ea_cons (ev_var rfl) ea_nil) (spPure.use rfl fun H1 _ g _ _ => by
        obtain ⟨t, ty, _⟩ := flat_ty (g := g) fx
        exact ⟨x, t, rfl, ty, rfl⟩)
    refine e1 H (Ex.refl H) _ fun H1 x1 => ⟨keepB x, rfl, ?_⟩
    rcases h with ⟨hn, kE⟩ | ⟨hn, kQ⟩
    · refine ite2 (fun _ => ?_) fun z => absurd (by rw [hn]; rfl) z
      exact ⟨x, rfl, fun d hd => kE d H1 (Go.ex hz x1) hd⟩
    · refine ite2 (fun z => absurd z (by rw [hn]; simp)) fun _ => kQ H1 x1
end
end K11
set_option Elab.async false
set_option linter.all false
set_option maxRecDepth 100000
set_option maxHeartbeats 4000000
namespace K11
open PySem PySem.Spec PyProof.Rows L2 GxR Pu Evl
abbrev nMostM : List Str := ["keep", "age", "many"]
abbrev nMostS : List Str := ["keep", "rows", "spans", "size", "left"]
theorem scMostM : FnScope nMostM ["keep", "age"] (defScope sMostMany) := ⟨rfl, rfl, rfl, by decide +kernel, rfl, by decide +kernel, by decide +kernel⟩
theorem scMostS : FnScope nMostS ["keep", "rows"] (defScope sMostSpans) := ⟨rfl, rfl, rfl, by decide +kernel, rfl, by decide +kernel, by decide +kernel⟩
/-- a number told by keep and another number; what is none is refused, keep first -/
def spMost (Z : Tx) (C : Addr) (F : Nat → Nat → Nat) : Sp := fun vs H Q E => ∃ x y, vs = [x, y] ∧ Z.Ok H ∧ flatV x = true ∧
  ((keepB x = false ∧ ∀ d H', Go Z [] H H' → H' d = none → E (.ref C) (some d) (upd H' d (.xd [("at", x)]))) ∨
   ∃ k : Nat, x = .int (k : Int) ∧ 2 ≤ k ∧ k ≤ 8 ∧ flatV y = true ∧
    ((isNum y = false ∧ ∀ d H', Go Z [] H H' → H' d = none → E (.ref C) (some d) (upd H' d (.xd [("at", y)]))) ∨
     ∃ a : Nat, y = .int (a : Int) ∧ a ≤ 1000 ∧ ∀ H', Ex H H' → Q (.int ((F k a : Nat) : Int)) H'))
theorem keepB_nat {k : Nat} (h2 : 2 ≤ k) (h8 : k ≤ 8) : keepB (.int (k : Int)) = true := by
  show (decide (2 ≤ (k : Int)) && decide ((k : Int) ≤ 8)) = true
  rw [decide_eq_true (by omega), decide_eq_true (by omega)]
  rfl
theorem isNum_nat (n : Nat) : isNum (.int (n : Int)) = true := decide_eq_true (show (n : Int) ≥ 0 by omega)
section
variable {P : Program} {w : World} {K : PySem.W.Frag} {mg : Str → Option Value} {base : Heap} {Z : Tx}
variable {fNK fNN fI C : Addr} {dNK dNN dI : FuncData}
theorem ok_mostM {f : Addr} {fd : FuncData} (F : Fun K "most_many" "most_many" sMostMany f fd) (C1 : CalX P w K mg base "need_keep" ["keep"] sNeedKeep 3 (spNeed K Z C keepB) fNK dNK) (C2 : CalX P w K mg base "need_number" ["value"] sNeedNumber 3 (spNeed K Z C isNum) fNN dNN) :
    FnOk P w K mg base (L2.CX P w) 4 f fd ["keep", "age"] (spMost Z C Sh.mm) := by
  refine F.okX scMostM (fun vs H Q E h => ?_) (fun cdv A outer s H vs Q E hr h => ?_)
  · obtain ⟨x, y, rfl, _⟩ := h
    rfl
  · obtain ⟨x, y, rfl, hz, fx, h⟩ := h
    have tk : Takes (cxOf (L2.CX P w) P w K mg base nMostM "most_many" (defScope sMostMany) f cdv A outer s H E) (fun cls d _ H' => E cls d H') := takes_of (X := cxOf (L2.CX P w) P w K mg base nMostM "most_many" (defScope sMostMany) f cdv A outer s H E) rfl rfl rfl rfl
    refine ⟨_, (pss_cons (ps_expr (pe_call C1.ok (hr.mono (by decide)) (by rfl) C1.ns.mg C1.ns.fn.kp C1.ns.bd .nil (passes_call tk fun _ _ _ _ h => h) (pa_cons (pv 0) pa_nil)))
      (pss_cons (ps_expr (pe_call C2.ok (hr.mono (by decide)) (by rfl) C2.ns.mg C2.ns.fn.kp C2.ns.bd .nil (passes_call tk fun _ _ _ _ h => h) (pa_cons (pv 1) pa_nil)))
      (pss_cons (ps_set (i := 2) scMostM.nd rfl (.inl rfl) pe_int)
      (pss_cons (ps_while (passes_of rfl) (pt_cmpR op_le (pe_op op_mul (pe_op op_sub (pv 0) pe_int) (pe_op op_sub (pe_op op_mul pe_int (pv 2)) pe_int)) (pv 1) (nomark _))
          (pss_one (ps_aug (i := 2) scMostM.nd rfl (.inl rfl) pe_int iop_mul)))
      (pss_one (ps_ret (pv 2))))))), ?_⟩
    rcases h with ⟨hn, kE⟩ | ⟨k, rfl, h2, h8, fy, h⟩
    · exact ⟨x, rfl, x, rfl, hz, fx, .inl ⟨hn, kE⟩⟩
    · refine ⟨_, rfl, _, rfl, hz, rfl, .inr ⟨keepB_nat h2 h8, fun H1 e1 => ?_⟩⟩
      rcases h with ⟨hn, kE⟩ | ⟨a, rfl, ha, kk⟩
      · exact ⟨y, rfl, y, rfl, hz.ex e1, fy, .inl ⟨hn, fun d H' g hd => kE d H' ((Go.ex hz e1).trans g) hd⟩⟩
      · refine ⟨_, rfl, _, rfl, hz.ex e1, rfl, .inr ⟨isNum_nat a, fun H2 e2 => ?_⟩⟩
        refine q_asg (v := .int 1) ev_c fun H3 e3 => ?_
        refine q_while (fun u σ' H' => ∃ m : Nat, σ' = [some (.int (k : Int)), some (.int (a : Int)), some (.int (m : Int))] ∧ Ex H H' ∧ Sh.mmG k a u m = Sh.mm k a ∧ m * 2 ^ u = 1024 ∧ 1 ≤ m) 10
          ⟨1, rfl, (e1.trans e2).trans e3, rfl, by decide, by decide⟩ fun u σ' H' hw => ?_
        obtain ⟨m, rfl, ex, hm, hp, m1⟩ := hw
        have ek : (((k : Int) - 1) * (2 * (m : Int) - 1)) = (((k - 1) * (2 * m - 1) : Nat) : Int) := by
          rw [Int.natCast_mul]
          congr 1 <;> omega
        refine ⟨decide ((k - 1) * (2 * m - 1) ≤ a), et_is (et_test (ev_op (ev_op (ev_op (ev_var rfl) ev_c rv_I0) (ev_op (ev_op ev_c (ev_var rfl) (rv_I (.inl ⟨by decide, by decide⟩))) ev_c rv_I0) (rv_I (.inl ⟨by omega, by omega⟩))) (ev_var rfl) rv_I0)) ?_, fun hb H4 e4 => ?_, fun hb H4 e4 => ?_⟩
        · rw [ek]
          exact decide_eq_decide.mpr (by omega)
        · have hb := of_decide_eq_true hb
          have b1 : 1 * (2 * m - 1) ≤ (k - 1) * (2 * m - 1) := Nat.mul_le_mul_right _ (by omega)
          cases u with
          | zero =>
            exfalso
            have : m * 1 = 1024 := hp
            omega
          | succ u =>
            refine ⟨fun σ2 H5 => ∃ m' u', u' < u + 1 ∧ σ2 = [some (.int (k : Int)), some (.int (a : Int)), some (.int ((m' : Nat) : Int))] ∧ Ex H H5 ∧ Sh.mmG k a u' m' = Sh.mm k a ∧ m' * 2 ^ u' = 1024 ∧ 1 ≤ m', fun σ2 H5 hN => ?_, ?_⟩
            · obtain ⟨m', u', hlt, a1, b, c, d, e⟩ := hN
              exact ⟨u', hlt, m', a1, b, c, d, e⟩
            · refine ⟨.int (m : Int), rfl, (m : Int), 2, rfl, rfl, .inr ⟨by decide, by decide⟩, ?_⟩
              refine ⟨m * 2, u, by omega, ?_, ex.trans e4, ?_, ?_, by omega⟩
              · show [_, _, _] = [_, _, _]
                rw [Int.natCast_mul]
                rfl
              · rw [← hm]
                show _ = if (k - 1) * (2 * m - 1) ≤ a then _ else _
                rw [if_pos hb]
              · rw [← hp, Nat.pow_succ, Nat.mul_assoc, Nat.mul_comm 2]
        · have hb := of_decide_eq_false hb
          refine s_ret (ev_var rfl) fun H5 e5 => ?_
          have : m = Sh.mm k a := by
            rw [← hm]
            cases u with
            | zero => rfl
            | succ u =>
              show m = if (k - 1) * (2 * m - 1) ≤ a then _ else _
              rw [if_neg hb]
          rw [this]
          exact kk H5 ((ex.trans e4).trans e5)
theorem ok_mostS {f : Addr} {fd : FuncData} (F : Fun K "most_spans" "most_spans" sMostSpans f fd) (C1 : CalX P w K mg base "need_keep" ["keep"] sNeedKeep 3 (spNeed K Z C keepB) fNK dNK) (C2 : CalX P w K mg base "need_number" ["value"] sNeedNumber 3 (spNeed K Z C isNum) fNN dNN) :
    FnOk P w K mg base (L2.CX P w) 4 f fd ["keep", "rows"] (spMost Z C Sh.ms) := by
  refine F.okX scMostS (fun vs H Q E h => ?_) (fun cdv A outer s H vs Q E hr h => ?_)
  · obtain ⟨x, y, rfl, _⟩ := h
    rfl
  · obtain ⟨x, y, rfl, hz, fx, h⟩ := h
    have tk : Takes (cxOf (L2.CX P w) P w K mg base nMostS "most_spans" (defScope sMostSpans) f cdv A outer s H E) (fun cls d _ H' => E cls d H') := takes_of (X := cxOf (L2.CX P w) P w K mg base nMostS "most_spans" (defScope sMostSpans) f cdv A outer s H E) rfl rfl rfl rfl
    refine ⟨_, (pss_cons (ps_expr (pe_call C1.ok (hr.mono (by decide)) (by rfl) C1.ns.mg C1.ns.fn.kp C1.ns.bd .nil (passes_call tk fun _ _ _ _ h => h) (pa_cons (pv 0) pa_nil)))
      (pss_cons (ps_expr (pe_call C2.ok (hr.mono (by decide)) (by rfl) C2.ns.mg C2.ns.fn.kp C2.ns.bd .nil (passes_call tk fun _ _ _ _ h => h) (pa_cons (pv 1) pa_nil)))
      (pss_cons (ps_set (i := 2) scMostS.nd rfl (.inl rfl) pe_int)
      (pss_cons (ps_set (i := 3) scMostS.nd rfl (.inl rfl) pe_int)
      (pss_cons (ps_set (i := 4) scMostS.nd rfl (.inl rfl) (pv 1))
      (pss_cons (ps_while (passes_of rfl) (pt_cmpR op_ge (pv 4) (pe_op op_mul (pv 0) (pv 3)) (nomark _))
          (pss_cons (ps_aug (i := 2) scMostS.nd rfl (.inl rfl) (pv 0) ip_add)
          (pss_cons (ps_aug (i := 4) scMostS.nd rfl (.inl rfl) (pe_op op_mul (pv 0) (pv 3)) ip_sub)
          (pss_one (ps_aug (i := 3) scMostS.nd rfl (.inl rfl) pe_int iop_mul)))))
      (pss_one (ps_ret (pe_op op_add (pv 2) (pe_op op_fdiv (pv 4) (pv 3))))))))))), ?_⟩
    rcases h with ⟨hn, kE⟩ | ⟨k, rfl, h2, h8, fy, h⟩
    · exact ⟨x, rfl, x, rfl, hz, fx, .inl ⟨hn, kE⟩⟩
    · refine ⟨_, rfl, _, rfl, hz, rfl, .inr ⟨keepB_nat h2 h8, fun H1 e1 => ?_⟩⟩
      rcases h with ⟨hn, kE⟩ | ⟨a, rfl, ha, kk⟩
      · exact ⟨y, rfl, y, rfl, hz.ex e1, fy, .inl ⟨hn, fun d H' g hd => kE d H' ((Go.ex hz e1).trans g) hd⟩⟩
      · refine ⟨_, rfl, _, rfl, hz.ex e1, rfl, .inr ⟨isNum_nat a, fun H2 e2 => ?_⟩⟩
        refine q_asg (v := .int 0) ev_c fun H3 e3 => q_asg (v := .int 1) ev_c fun H4 e4 => q_asg (v := .int (a : Int)) (ev_var rfl) fun H5 e5 => ?_
        refine q_while (fun u σ' H' => ∃ sp sz lf : Nat, σ' = [some (.int (k : Int)), some (.int (a : Int)), some (.int (sp : Int)), some (.int (sz : Int)), some (.int (lf : Int))] ∧ Ex H H' ∧ Sh.msG k u sp sz lf = Sh.ms k a ∧ sz * 2 ^ u = 1024 ∧ 1 ≤ sz ∧ sz ≤ 1024 ∧ lf ≤ a) 10
          ⟨0, 1, a, rfl, (((e1.trans e2).trans e3).trans e4).trans e5, rfl, by decide, by decide, by decide, Nat.le_refl _⟩ fun u σ' H' hw => ?_
        obtain ⟨sp, sz, lf, rfl, ex, hm, hp, z1, z2, hl⟩ := hw
        have ek : ((k : Int) * (sz : Int)) = ((k * sz : Nat) : Int) := by rw [Int.natCast_mul]
        have cm : CMul (k : Int) (sz : Int) := .inl ⟨by omega, by omega⟩
        refine ⟨decide (k * sz ≤ lf), et_is (et_test (ev_op (ev_var rfl) (ev_op (ev_var rfl) (ev_var rfl) (rv_I cm)) rv_I0)) ?_, fun hb H6 e6 => ?_, fun hb H6 e6 => ?_⟩
        · rw [ek]
          exact decide_eq_decide.mpr (by omega)
        · have hb := of_decide_eq_true hb
          have b1 : 2 * sz ≤ k * sz := Nat.mul_le_mul_right _ h2
          cases u with
          | zero =>
            exfalso
            have : sz * 1 = 1024 := hp
            omega
          | succ u =>
            refine ⟨fun σ2 H5 => ∃ sp' sz' lf' u', u' < u + 1 ∧ σ2 = [some (.int (k : Int)), some (.int (a : Int)), some (.int ((sp' : Nat) : Int)), some (.int ((sz' : Nat) : Int)), some (.int ((lf' : Nat) : Int))] ∧ Ex H H5 ∧ Sh.msG k u' sp' sz' lf' = Sh.ms k a ∧ sz' * 2 ^ u' = 1024 ∧ 1 ≤ sz' ∧ sz' ≤ 1024 ∧ lf' ≤ a, fun σ2 H5 hN => ?_, ?_⟩
            · obtain ⟨sp', sz', lf', u', hlt, r⟩ := hN
              exact ⟨u', hlt, sp', sz', lf', r⟩
            · refine q_aug (a := (sp : Int)) (b := (k : Int)) rfl (ev_var rfl) fun H7 e7 => ?_
              refine q_aug (a := (lf : Int)) (b := ((k * sz : Nat) : Int)) rfl (ev_is (ev_op (ev_var rfl) (ev_var rfl) (rv_I cm)) (by rw [ek])) fun H8 e8 => ?_
              refine ⟨.int (sz : Int), rfl, (sz : Int), 2, rfl, rfl, .inr ⟨by decide, by decide⟩, ?_⟩
              refine ⟨sp + k, sz * 2, lf - k * sz, u, by omega, ?_, ((ex.trans e6).trans e7).trans e8, ?_, ?_, by omega, ?_, by omega⟩
              · show [_, _, _, _, _] = [_, _, _, _, _]
                rw [Int.natCast_mul, show ((lf - k * sz : Nat) : Int) = (lf : Int) - ((k * sz : Nat) : Int) by omega]
                rfl
              · rw [← hm]
                show _ = if k * sz ≤ lf then _ else _
                rw [if_pos hb]
              · rw [← hp, Nat.pow_succ, Nat.mul_assoc, Nat.mul_comm 2]
              · have q : 1 ≤ 2 ^ u := Nat.one_le_two_pow
                have : sz * 2 * 1 ≤ sz * 2 * 2 ^ u := Nat.mul_le_mul_left _ q
                rw [Nat.pow_succ, Nat.mul_comm (2 ^ u) 2, ← Nat.mul_assoc] at hp
                omega
        · have hb := of_decide_eq_false hb
          have ed : ((sp : Int) + (lf : Int) / (sz : Int)) = ((sp + lf / sz : Nat) : Int) := by rw [Int.natCast_add, Int.natCast_ediv]
          refine s_ret (ev_is (ev_op (ev_var rfl) (ev_op (ev_var rfl) (ev_var rfl) (rv_I ⟨by omega, by omega⟩)) rv_I0) (by rw [ed])) fun H7 e7 => ?_
          have : sp + lf / sz = Sh.ms k a := by
            rw [← hm]
            cases u with
            | zero => rfl
            | succ u =>
              show _ = if k * sz ≤ lf then _ else _
              rw [if_neg hb]
          rw [this]
          exact kk H7 ((ex.trans e6).trans e7)
end
end K11
set_option Elab.async false
set_option linter.all false
set_option maxRecDepth 100000
set_option maxHeartbeats 4000000
namespace K11
open PySem PySem.Spec PyProof.Rows L2 GxR Pu Evl
theorem scBox : FnScope ["_law_script", "_law_k", "_law_cell", "_law_great"] ["_law_script", "_law_k"] (defScope sBox) := ⟨rfl, rfl, rfl, by decide +kernel, rfl, by decide +kernel, by decide +kernel⟩
theorem scTake : FnScope ["_law_box_here", "_law_many", "_law_digit", "_law_raw"] ["_law_box_here", "_law_many"] (defScope sTake) := ⟨rfl, rfl, rfl, by decide +kernel, rfl, by decide +kernel, by decide +kernel⟩
theorem scPick : FnScope ["_law_box_here", "_law_some"] ["_law_box_here", "_law_some"] (defScope sPick) := ⟨rfl, rfl, rfl, by decide +kernel, rfl, by decide +kernel, by decide +kernel⟩
section
variable {P : Program} {w : World} {K : PySem.W.Frag} {mg : Str → Option Value} {base : Heap}
variable {fBox fTake fPick : Addr} {dBox dTake dPick : FuncData}
theorem atI_map {ns : List Int} {j : Nat} (h : j < ns.length) : atI (ns.map V.int) (j : Int) = some (V.int (ns.getD j 0)) := by
  refine atI_nat ?_
  rw [List.getElem?_map, List.getElem?_eq_getElem h, List.getD_eq_getElem?_getD, List.getElem?_eq_getElem h]
  rfl
theorem ok_box {ns : List Int} {f : Addr} {fd : FuncData} (G : Mg mg) (F : Fun K "_law_box" "_law_box" sBox f fd) : FnOk P w K mg base CX0 1 f fd ["_law_script", "_law_k"] (spBox K ns) := by
  refine F.ok scBox (fun vs H Q E h => ?_) (fun cdv A outer s H vs Q E hr h => ?_)
  · obtain ⟨a, k, rfl, _⟩ := h
    rfl
  · obtain ⟨a, k, rfl, hs, hn, hk, kk⟩ := h
    refine ⟨_, pss_cons (ps_set (i := 2) scBox.nd rfl (.inl rfl) (pe_op op_add (pe_op op_mul pe_int (pv 1)) pe_int))
      (pss_cons (ps_if (pt_cmpR op_lt (pv 1) (pe_callB call_len (by rfl) G.len boot_len (pa_cons (pv 0) pa_nil)) (nomark _))
        (pss_one (ps_set (i := 2) scBox.nd rfl (.inl rfl) (pe_callB call_abs (by rfl) G.abs boot_abs (pa_cons (pe_callTy (T := "int") call_int1 (by rfl) G.int (by decide +kernel) (pa_cons (pe_ix ix_list (pv 0) (pv 1) (fun _ _ => rfl)) pa_nil)) pa_nil))))
        (pss_one (ps_if (pt_cmpR op_gt (pe_callB call_len (by rfl) G.len boot_len (pa_cons (pv 0) pa_nil)) pe_int (nomark _))
          (pss_one (ps_set (i := 2) scBox.nd rfl (.inl rfl) (pe_op op_add (pv 2) (pe_op op_mul (pe_op op_mod (pe_callTy (T := "int") call_int1 (by rfl) G.int (by decide +kernel) (pa_cons
            (pe_callB call_abs (by rfl) G.abs boot_abs (pa_cons (pe_callTy (T := "int") call_int1 (by rfl) G.int (by decide +kernel) (pa_cons (pe_ix ix_list (pv 0)
              (pe_op op_mod (pe_callTy (T := "int") call_int1 (by rfl) G.int (by decide +kernel) (pa_cons (pv 1) pa_nil)) (pe_callB call_len (by rfl) G.len boot_len (pa_cons (pv 0) pa_nil))) (fun _ _ => rfl)) pa_nil)) pa_nil)) pa_nil)) pe_int) pe_int))))
          pss_nil)))
      (pss_cons (ps_set (i := 3) scBox.nd rfl (.inl rfl) (pe_ifExp (pt_cmpR op_ge (pv 2) (pe_op op_pow pe_int pe_int) (nomark _)) (pv 2) pe_int))
      (pss_one (ps_ret (pe_lst (pa_cons (pv 3) (pa_cons (pe_op op_add (pe_op op_mod (pe_callTy (T := "int") call_int1 (by rfl) G.int (by decide +kernel) (pa_cons
        (pe_op op_add (pe_op op_mul (pe_op op_mod (pe_callTy (T := "int") call_int1 (by rfl) G.int (by decide +kernel) (pa_cons (pv 2) pa_nil)) pe_int) pe_int) (pe_op op_mul pe_int (pv 1))) pa_nil)) pe_int) pe_int) pa_nil))))))), ?_⟩
    have c64 : ∀ j : Int, 0 ≤ j → j < 2 ^ 64 → ∀ i : Int, CMul i j := fun j a b i => .inr ⟨by omega, b⟩
    have d64 : ∀ j : Int, 0 ≤ j → j < 2 ^ 64 → ∀ i : Int, CMul j i := fun j a b i => .inl ⟨by omega, b⟩
    have ml : (ns.map V.int).length = ns.length := by simp
    refine q_asg (v := .int (7573 * (k : Int) + 1181)) (ev_op (ev_op ev_c (ev_var rfl) (rv_I (d64 _ (by decide) (by decide) _))) ev_c rv_I0) fun H1 e1 => ?_
    have hs1 := ex_l e1 hs
    refine q_ifSet (i := 2) (c0 := 7573 * (k : Int) + 1181) (fun c => 0 ≤ c) (et_test (ev_op (ev_var rfl) (ev_lenL (ev_var rfl) hs1) rv_I0)) (fun z => ?_) (fun _ => et_test (ev_op (ev_lenL (ev_var rfl) hs1) ev_c rv_I0)) (fun z y => ?_) ⟨by omega, rfl⟩ fun c H2 hc e2 => ?_
    · have hk2 : k < ns.length := by have := of_decide_eq_true z; omega
      refine ⟨_, ?_, ev_cb (ea_cons (ev_int1 (ev_op (ev_var rfl) (ev_var rfl) (rv_ixL hs1 (atI_map hk2)))) ea_nil) rc_abs⟩
      split <;> omega
    · have hn0 : 0 < ns.length := by have := of_decide_eq_true y; omega
      obtain ⟨j, hj, hjn⟩ := mod_nat (k : Int) (m := ns.length) hn0
      have jx : Ev (tOp (rI (fun _ j => 0 < j) fun i j => .int (i % j)) (tCB (fun xs H Q => (∃ i, xs = [V.int i] ∧ Q (.int i) H) ∨ ∃ k, xs = [.bl k] ∧ Q (.int (if k then 1 else 0)) H) (tCons (tVar 1) tNil)) (tCB (fun ys H Q => ∃ x n, ys = [x] ∧ LenV K x H n ∧ Q (.int n) H) (tCons (tVar 0) tNil))) (List.set (start ["_law_script", "_law_k", "_law_cell", "_law_great"] [V.ref a, V.int k]) 2 (some (V.int (7573 * (k : Int) + 1181)))) H1 (.int (j : Int)) :=
        ev_is (ev_op (ev_int1 (ev_var rfl)) (ev_lenL (ev_var rfl) hs1) (rv_I (by omega))) (by rw [ml, hj])
      obtain ⟨x, hx⟩ : ∃ x : Int, (if ns.getD j 0 < 0 then -ns.getD j 0 else ns.getD j 0) = x := ⟨_, rfl⟩
      have x0 := Int.emod_nonneg x (show (2147483587 : Int) ≠ 0 by decide)
      refine ⟨7573 * (k : Int) + 1181 + x % 2147483587 * 50461, by omega, ?_⟩
      refine ev_op (ev_var rfl) (ev_op (ev_op (ev_int1 (ev_is (ev_cb (ea_cons (ev_int1 (ev_op (ev_var rfl) jx (rv_ixL hs1 (atI_map hjn)))) ea_nil) rc_abs) (by rw [hx]))) ev_c (rv_I (by decide))) ev_c (rv_I (c64 _ (by decide) (by decide) _))) rv_I0
    · have pw : CPow 10 18 := ⟨by decide, by decide, by decide⟩
      obtain ⟨g, hg, hg0⟩ : ∃ g : Int, (if 10 ^ 18 ≤ c then c else 0) = g ∧ 0 ≤ g := ⟨_, rfl, by split <;> omega⟩
      refine q_asg (v := .int g) (ev_if (et_test (ev_op (ev_var rfl) (ev_op ev_c ev_c (rv_I pw)) rv_I0)) (fun z => ev_is (ev_var rfl) ?_) (fun z => ev_is ev_c ?_)) fun H3 e3 => ?_
      · rw [← hg, if_pos (show (10 : Int) ^ 18 ≤ c from of_decide_eq_true z)]
      · rw [← hg, if_neg (show ¬ (10 : Int) ^ 18 ≤ c from of_decide_eq_false z)]
      · have y0 := Int.emod_nonneg (c % 2147483587 * 69761 + 1181 * (k : Int)) (show (2147483587 : Int) ≠ 0 by decide)
        refine s_retL (xs := [.int g, .int ((c % 2147483587 * 69761 + 1181 * (k : Int)) % 2147483587 + 1)]) (el_lst (ea_cons (ev_var rfl) (ea_cons (ev_op (ev_op (ev_int1 (ev_op (ev_op (ev_op (ev_int1 (ev_var rfl)) ev_c (rv_I (by decide))) ev_c (rv_I (c64 _ (by decide) (by decide) _)))
          (ev_op ev_c (ev_var rfl) (rv_I (d64 _ (by decide) (by decide) _))) rv_I0)) ev_c (rv_I (by decide))) ev_c rv_I0) ea_nil)) (by show 2 ≤ 100000; decide)) fun p H4 hp e4 h4 => ?_
        exact kk p H4 (fresh_back ((e1.trans e2).trans e3) hp) (((e1.trans e2).trans e3).trans e4) ⟨g, _, h4, hg0, by omega⟩
theorem ok_take {f : Addr} {fd : FuncData} (G : Mg mg) (F : Fun K "_law_take" "_law_take" sTake f fd) : FnOk P w K mg base CX0 1 f fd ["_law_box_here", "_law_many"] spTake := by
  refine F.ok scTake (fun vs H Q E h => ?_) (fun cdv A outer s H vs Q E hr h => ?_)
  · obtain ⟨p, m, rfl, _⟩ := h
    rfl
  · obtain ⟨p, m, rfl, h1, h9, hb, kk⟩ := h
    refine ⟨_, pss_cons (ps_if (pt_cmpR op_gt (pe_ix ix_list (pv 0) pe_int (fun _ _ => rfl)) pe_int (nomark _))
        (pss_cons (ps_set (i := 2) scTake.nd rfl (.inl rfl) (pe_op op_mod (pe_callTy (T := "int") call_int1 (by rfl) G.int (by decide +kernel) (pa_cons (pe_ix ix_list (pv 0) pe_int (fun _ _ => rfl)) pa_nil)) (pv 1)))
        (pss_cons (ps_asg (pe_op op_fdivW (pe_ix ix_list (pv 0) pe_int (fun _ _ => rfl)) (pv 1)) (pg_sub (pv 0) pe_int set_list (fun _ => rfl)))
        (pss_one (ps_ret (pv 2)))))
        pss_nil)
      (pss_cons (ps_set (i := 3) scTake.nd rfl (.inl rfl) (pe_op op_mod (pe_callTy (T := "int") call_int1 (by rfl) G.int (by decide +kernel) (pa_cons (pe_op op_add (pe_op op_mul (pe_ix ix_list (pv 0) pe_int (fun _ _ => rfl)) pe_int) pe_int) pa_nil)) pe_int))
      (pss_cons (ps_asg (pe_op op_add (pe_op op_mod (pe_callTy (T := "int") call_int1 (by rfl) G.int (by decide +kernel) (pa_cons (pe_op op_add (pe_op op_mul (pv 3) pe_int) pe_int) pa_nil)) pe_int) pe_int) (pg_sub (pv 0) pe_int set_list (fun _ => rfl)))
      (pss_one (ps_ret (pe_op op_mod (pe_callTy (T := "int") call_int1 (by rfl) G.int (by decide +kernel) (pa_cons (pe_op op_fdiv (pe_op op_add (pe_op op_mul (pv 3) pe_int) (pe_ix ix_list (pv 0) pe_int (fun _ _ => rfl))) pe_int) pa_nil)) (pv 1)))))), ?_⟩
    obtain ⟨g, s', hH, hg, hs⟩ := hb
    have m0 : (0 : Int) < (m : Int) := by omega
    refine q_when (b := decide (0 < g)) (et_test (ev_op (ev_op (ev_var rfl) ev_c (rv_ixL (SqL.of hH) rfl)) ev_c rv_I0)) (fun hgt H1 e1 => ?_) (fun _ H1 e1 => ?_)
    · obtain ⟨d, hd, hdm⟩ := mod_nat g h1
      refine q_asg (v := .int (d : Int)) (ev_is (ev_op (ev_int1 (ev_op (ev_var rfl) ev_c (rv_ixL (SqL.of (e1 _ _ hH)) rfl))) (ev_var rfl) (rv_I m0)) (by rw [hd])) fun H2 e2 => ?_
      have h2 := (e1.trans e2) _ _ hH
      refine q_setL (j := 0) (v := .int (g / (m : Int))) h2 (ev_op (ev_op (ev_var rfl) ev_c (rv_ixL (SqL.of h2) rfl)) (ev_var rfl) (rv_I ⟨m0, ?_⟩)) (ev_var rfl) ev_c (by simp) fun H3 e3 => ?_
      · exact lt_log h9
      · exact s_ret (ev_var rfl) fun H4 e4 => kk d H4 hdm (ExB.of ((e1.trans e2).trans e3) e4 (Int.ediv_nonneg hg (by omega)) hs)
    · have h1' := e1 _ _ hH
      have c64 : ∀ j : Int, 0 ≤ j → j < 2 ^ 64 → ∀ i : Int, CMul i j := fun j a b i => .inr ⟨by omega, b⟩
      obtain ⟨r, hr⟩ : ∃ r : Int, (s' * 40692 + 79) % 2147483399 = r := ⟨_, rfl⟩
      refine q_asg (v := .int r) (ev_is (ev_op (ev_int1 (ev_op (ev_op (ev_op (ev_var rfl) ev_c (rv_ixL (SqL.of h1') rfl)) ev_c (rv_I (c64 _ (by decide) (by decide) _))) ev_c rv_I0)) ev_c (rv_I (by decide))) (by rw [hr])) fun H2 e2 => ?_
      have h2 := e2 _ _ h1'
      obtain ⟨t, ht⟩ : ∃ t : Int, (r * 39373 + 31) % 2147483587 + 1 = t := ⟨_, rfl⟩
      have t0 : 0 ≤ t := by
        have := Int.emod_nonneg (r * 39373 + 31) (show (2147483587 : Int) ≠ 0 by decide)
        omega
      refine q_setL (j := 1) (v := .int t) h2 (ev_is (ev_op (ev_op (ev_int1 (ev_op (ev_op (ev_var rfl) ev_c (rv_I (c64 _ (by decide) (by decide) _))) ev_c rv_I0)) ev_c (rv_I (by decide))) ev_c rv_I0) (by rw [ht])) (ev_var rfl) ev_c (by simp) fun H3 e3 => ?_
      have h4 : (upd H3 p (.lst ([V.int g, .int s'].set 1 (.int t)))) p = some (.lst [.int g, .int t]) := upd_same
      obtain ⟨d, hd, hdm⟩ := mod_nat ((r * 2147483629 + t) / 8167) h1
      refine s_ret (v := .int (d : Int)) (ev_is (ev_op (ev_int1 (ev_op (ev_op (ev_op (ev_var rfl) ev_c (rv_I (c64 _ (by decide) (by decide) _))) (ev_op (ev_var rfl) ev_c (rv_ixL (SqL.of h4) rfl)) rv_I0) ev_c (rv_I ?_))) (ev_var rfl) (rv_I m0)) (by rw [hd])) fun H4 e4 => kk d H4 hdm (ExB.of ((e1.trans e2).trans e3) e4 hg t0)
      exact ⟨by decide, by decide⟩
theorem ok_pick {f : Addr} {fd : FuncData} (G : Mg mg) (F : Fun K "_law_pick" "_law_pick" sPick f fd) (F1 : Fns K mg "_law_take" ["_law_box_here", "_law_many"] sTake fTake dTake) : FnOk P w K mg base CX0 2 f fd ["_law_box_here", "_law_some"] spPick := by
  have G1 : FnOk P w K mg base CX0 1 fTake dTake ["_law_box_here", "_law_many"] spTake := ok_take G F1.fn
  refine F.ok scPick (fun vs H Q E h => ?_) (fun cdv A outer s H vs Q E hr h => ?_)
  · obtain ⟨p, q, ys, rfl, _⟩ := h
    rfl
  · obtain ⟨p, q, ys, rfl, hb, hq, hne, hl, hz, kk⟩ := h
    refine ⟨_, pss_one (ps_ret (pe_ix ix_list (pv 1) (pe_call G1 hr (by rfl) F1.mg F1.fn.kp F1.bd .nil pass0 (pa_cons (pv 0) (pa_cons (pe_callB call_len (by rfl) G.len boot_len (pa_cons (pv 1) pa_nil)) pa_nil))) (fun _ _ => rfl))), ?_⟩
    refine ⟨.ref q, rfl, .ref p, rfl, .ref q, rfl, .ref q, ys.length, rfl, .inl ⟨ys, SqL.of hq, rfl⟩, p, ys.length, rfl, hl, by omega, hb, fun d H' hd e => ?_⟩
    refine ⟨q, ys, d, ys[d], rfl, rfl, SqL.of (e.2 _ _ hne hq), atI_nat (List.getElem?_eq_getElem hd), kk _ H' (List.getElem_mem hd) e⟩
end
end K11
set_option Elab.async false
set_option linter.all false
set_option maxRecDepth 100000
set_option maxHeartbeats 4000000
/-! sum, min, max of a tuple or list of ints -/
namespace Pu
open PySem PySem.Spec PyProof.Rows L2 GxR Evl
section
variable {prog : Program} {w : World} {A : Around} {E : Value → Shared → Prop} {s : Shared} {l : Addr} {xs : Array (Int × Tok)}
theorem iter_intTup {Q : Value → Shared → Prop} (hl : s.heap.IsTuple l (intItems xs))
    (h : ∀ s₂ : Shared, s₂ = { s with heap := s.heap.push { cls := .type "tuple_iterator", data := .fields #[.ref l, .int 0 0] } } →
      (s₂.heap.IsTupleIter s.heap.objs.size l 0 ∧ s₂.heap.IsTuple l (intItems xs)) → (∀ b ∈ [s.heap.objs.size, l], b < s₂.heap.objs.size) → l ≠ s.heap.objs.size → Q (.ref s.heap.objs.size) s₂) :
    wpAny (model prog w) A (pyIter (.ref l)) Q E s := by
  have hlt : l < s.heap.objs.size := by obtain ⟨_, e, _⟩ := hl; exact Heap.lt_size e
  refine wpAny_pyIter_tuple hl (h _ rfl ⟨⟨_, Heap.get?_push_size _ rfl, rfl, rfl⟩, hl.push _⟩ (fun b hb => ?_) (Nat.ne_of_lt hlt))
  show b < (s.heap.push _).objs.size
  rw [Heap.size_push]
  rcases List.mem_cons.mp hb with rfl | hb
  · exact Nat.lt_succ_self _
  · rcases List.mem_cons.mp hb with rfl | hb
    · exact Nat.lt_succ_of_lt hlt
    · cases hb
theorem old_keptT {h' : Heap} (hk : ∀ b o, b ∉ [s.heap.objs.size] → (s.heap.push { cls := .type "tuple_iterator", data := .fields #[.ref l, .int 0 0] }).get? b = some o → h'.get? b = some o) :
    ∀ b o, s.heap.get? b = some o → h'.get? b = some o := fun b o e => by
  refine hk b o (fun hm => ?_) (Heap.get?_push_of_some _ e)
  rcases List.mem_cons.mp hm with e1 | hm
  · exact absurd (e1 ▸ Heap.lt_size e) (Nat.lt_irrefl _)
  · cases hm
theorem max_intTup {Q : Value → Shared → Prop} (hh : A.handled = none) (hl : s.heap.IsTuple l (intItems xs)) (hne : 0 < xs.size)
    (h : ∀ v h' tk, (intItems xs)[argBest (fun i j => decide (numAt xs i > numAt xs j)) (xs.size - 1)]? = some v → (∀ b o, s.heap.get? b = some o → h'.get? b = some o) → Q v { s with heap := h', toks := tk }) :
    wpAny (model prog w) A (call (.builtin "max") [.ref l]) Q E s := by
  refine call_max_walk (iter_intTup hl fun s₂ e st hfp hlI => ?_)
  subst e
  refine ⟨_, _, _, _, _, _, _, rfl, Walks.tuple (A := A.in1) hh _ l hlI (intItems xs), st, hfp, by simpa [intItems] using hne, CmpOf.ints_gt (numAt xs) (fun _ _ => intItems_at), fun v h' tk hP hk => ?_⟩
  exact h v h' tk (by simpa [intItems] using hP) (old_keptT hk)
theorem min_intTup {Q : Value → Shared → Prop} (hh : A.handled = none) (hl : s.heap.IsTuple l (intItems xs)) (hne : 0 < xs.size)
    (h : ∀ v h' tk, (intItems xs)[argBest (fun i j => decide (numAt xs i < numAt xs j)) (xs.size - 1)]? = some v → (∀ b o, s.heap.get? b = some o → h'.get? b = some o) → Q v { s with heap := h', toks := tk }) :
    wpAny (model prog w) A (call (.builtin "min") [.ref l]) Q E s := by
  refine call_min_walk (iter_intTup hl fun s₂ e st hfp hlI => ?_)
  subst e
  refine ⟨_, _, _, _, _, _, _, rfl, Walks.tuple (A := A.in1) hh _ l hlI (intItems xs), st, hfp, by simpa [intItems] using hne, CmpOf.ints_lt (numAt xs) (fun _ _ => intItems_at), fun v h' tk hP hk => ?_⟩
  exact h v h' tk (by simpa [intItems] using hP) (old_keptT hk)
theorem sum_intTup {Q : Value → Shared → Prop} (hh : A.handled = none) (hl : s.heap.IsTuple l (intItems xs))
    (h : ∀ h' tk t', (∀ b o, s.heap.get? b = some o → h'.get? b = some o) → Q (.int (preSum (numAt xs) xs.size) t') { s with heap := h', toks := tk }) :
    wpAny (model prog w) A (call (.builtin "sum") [.ref l]) Q E s := by
  refine call_sum_walkG (iter_intTup hl fun s₂ e st hfp hlI => ?_)
  subst e
  refine ⟨_, _, _, _, _, _, numAt xs, rfl, Walks.tuple (A := A.in1) hh _ l hlI (intItems xs), st, hfp, (fun _ _ => intItems_at), fun h' tk t' hk => ?_⟩
  have := h h' tk t' (old_keptT hk)
  simpa [intItems] using this
end
section
variable {prog : Program} {w : World} {A : Around} {E : Value → Shared → Prop} {s : Shared} {l : Addr} {its : List Value} {ns : List Int} {Q : Value → Shared → Prop}
theorem sum_rawT (hh : A.handled = none) (hl : s.heap.IsTuple l its.toArray) (hi : IntsAre its ns)
    (h : ∀ h' tk t', (∀ b o, s.heap.get? b = some o → h'.get? b = some o) → Q (.int ns.sum t') { s with heap := h', toks := tk }) : wpAny (model prog w) A (call (.builtin "sum") [.ref l]) Q E s := by
  obtain ⟨xs, e⟩ := hi.allInts.items
  have hn : numsOf (intItems xs).toList = ns := by rw [← e]; exact hi.numsOf
  rw [nums_intItems] at hn
  rw [e] at hl
  refine sum_intTup hh hl fun h' tk t' hk => ?_
  have := h h' tk t' hk
  rw [preSum_eq, List.take_of_length_le (by simp), hn]; exact this
theorem max_rawT (hh : A.handled = none) (hl : s.heap.IsTuple l its.toArray) (hi : IntsAre its ns) (hne : 0 < ns.length)
    (h : ∀ h' tk M t', (∀ b o, s.heap.get? b = some o → h'.get? b = some o) → M ∈ ns → (∀ a, a ∈ ns → a ≤ M) → Q (.int M t') { s with heap := h', toks := tk }) : wpAny (model prog w) A (call (.builtin "max") [.ref l]) Q E s := by
  obtain ⟨xs, e⟩ := hi.allInts.items
  have hn : numsOf (intItems xs).toList = ns := by rw [← e]; exact hi.numsOf
  rw [nums_intItems] at hn
  subst hn
  rw [e] at hl
  have hsz : 0 < xs.size := by simpa using hne
  refine max_intTup hh hl hsz fun v h' tk hv hk => ?_
  obtain ⟨t, rfl⟩ := intItems_at hv
  obtain ⟨h1, h2⟩ := argBest_gt (numAt xs) (xs.size - 1)
  refine h h' tk _ t hk ?_ fun a ha => ?_
  · rw [numAt_eq]; exact PySem.getD_mem (by rw [List.length_map, Array.length_toList]; omega)
  · obtain ⟨j, hj, rfl⟩ := mem_getD ha
    rw [List.length_map, Array.length_toList] at hj
    rw [← numAt_eq]; exact h2 j (by omega)
theorem min_rawT (hh : A.handled = none) (hl : s.heap.IsTuple l its.toArray) (hi : IntsAre its ns) (hne : 0 < ns.length)
    (h : ∀ h' tk M t', (∀ b o, s.heap.get? b = some o → h'.get? b = some o) → M ∈ ns → (∀ a, a ∈ ns → M ≤ a) → Q (.int M t') { s with heap := h', toks := tk }) : wpAny (model prog w) A (call (.builtin "min") [.ref l]) Q E s := by
  obtain ⟨xs, e⟩ := hi.allInts.items
  have hn : numsOf (intItems xs).toList = ns := by rw [← e]; exact hi.numsOf
  rw [nums_intItems] at hn
  subst hn
  rw [e] at hl
  have hsz : 0 < xs.size := by simpa using hne
  refine min_intTup hh hl hsz fun v h' tk hv hk => ?_
  obtain ⟨t, rfl⟩ := intItems_at hv
  obtain ⟨h1, h2⟩ := argBest_lt (numAt xs) (xs.size - 1)
  refine h h' tk _ t hk ?_ fun a ha => ?_
  · rw [numAt_eq]; exact PySem.getD_mem (by rw [List.length_map, Array.length_toList]; omega)
  · obtain ⟨j, hj, rfl⟩ := mem_getD ha
    rw [List.length_map, Array.length_toList] at hj
    rw [← numAt_eq]; exact h2 j (by omega)
end
section
variable {X : Cx}
/-- sum, max, min of a tuple or list of ints -/
def rSumE (K : PySem.W.Frag) : List V → Hp → VK → Prop := fun vs H Q => ∃ (a : Addr) (ns : List Int), vs = [V.ref a] ∧ SqE K H a (ns.map V.int) ∧ Q (.int ns.sum) H
def rMaxE (K : PySem.W.Frag) : List V → Hp → VK → Prop := fun vs H Q => ∃ (a : Addr) (ns : List Int), vs = [V.ref a] ∧ SqE K H a (ns.map V.int) ∧ 0 < ns.length ∧ ∀ m, m ∈ ns → (∀ y, y ∈ ns → y ≤ m) → Q (.int m) H
def rMinE (K : PySem.W.Frag) : List V → Hp → VK → Prop := fun vs H Q => ∃ (a : Addr) (ns : List Int), vs = [V.ref a] ∧ SqE K H a (ns.map V.int) ∧ 0 < ns.length ∧ ∀ m, m ∈ ns → (∀ y, y ∈ ns → m ≤ y) → Q (.int m) H
theorem isTuple_of {h : Heap} {a : Addr} {its : Array Value} (t : IsTup h a its) : h.IsTuple a its := by
  obtain ⟨o, e, c, n, d⟩ := t
  exact ⟨o, e, c, n, d⟩
theorem cr_sumE (hc : X.calm = true) : CallR X (.builtin "sum") (rSumE X.K) := by
  intro pins s σ H vs us Q I r h
  obtain ⟨a, ns, rfl, hs | hs, q⟩ := h
  · obtain ⟨its, rv, hl, _⟩ := I.tuple hs
    rw [Vals.ref1 r]
    exact sum_rawT (I.ok.hd hc) (isTuple_of hl) rv.ints fun h' tk t' hk => ⟨.int _, H, I.kept hk, ⟨_, rfl⟩, q⟩
  · exact cr_sum hc pins s σ H _ us Q I r ⟨a, ns, rfl, hs, q⟩
theorem cr_maxE (hc : X.calm = true) : CallR X (.builtin "max") (rMaxE X.K) := by
  intro pins s σ H vs us Q I r h
  obtain ⟨a, ns, rfl, hs | hs, hne, q⟩ := h
  · obtain ⟨its, rv, hl, _⟩ := I.tuple hs
    rw [Vals.ref1 r]
    exact max_rawT (I.ok.hd hc) (isTuple_of hl) rv.ints hne fun h' tk m t' hk h1 h2 => ⟨.int _, H, I.kept hk, ⟨_, rfl⟩, q m h1 h2⟩
  · exact cr_max hc pins s σ H _ us Q I r ⟨a, ns, rfl, hs, hne, q⟩
theorem cr_minE (hc : X.calm = true) : CallR X (.builtin "min") (rMinE X.K) := by
  intro pins s σ H vs us Q I r h
  obtain ⟨a, ns, rfl, hs | hs, hne, q⟩ := h
  · obtain ⟨its, rv, hl, _⟩ := I.tuple hs
    rw [Vals.ref1 r]
    exact min_rawT (I.ok.hd hc) (isTuple_of hl) rv.ints hne fun h' tk m t' hk h1 h2 => ⟨.int _, H, I.kept hk, ⟨_, rfl⟩, q m h1 h2⟩
  · exact cr_min hc pins s σ H _ us Q I r ⟨a, ns, rfl, hs, hne, q⟩
end
end Pu
set_option Elab.async false
set_option linter.all false
set_option maxRecDepth 100000
set_option maxHeartbeats 4000000
namespace Pu
open PySem PySem.Spec PyProof.Rows L2 GxR Evl
theorem rv_ixQ {K : PySem.W.Frag} {H : Hp} {p : Addr} {xs : List V} {i : Int} {v : V} (h : SqE K H p xs) (ha : atI xs i = some v) : RV (rIx K) (.ref p) (.int i) H v := fun H1 e Q q =>
  (SqE.ex h e).elim (fun h => .inr (.inl ⟨p, xs, i, v, rfl, rfl, h, ha, q H1 (Ex.refl H1)⟩)) fun h => .inl ⟨p, xs, i, v, rfl, rfl, h, ha, q H1 (Ex.refl H1)⟩
theorem Paired.atL {α β : Type} {F : α → β → Prop} : ∀ {l : List α} {m : List β} {i : Nat} {x : α}, Paired F l m → l[i]? = some x → ∃ y, m[i]? = some y ∧ F x y
  | _, _, _, _, .nil, e => by cases e
  | _, _, 0, _, .cons r _, e => by cases e; exact ⟨_, rfl, r⟩
  | _, _, i + 1, _, .cons _ t, e => Paired.atL (i := i) t e
section
variable {K : PySem.W.Frag} {te : TE} {tt : TT} {σ : L2.St} {H H' : Hp} {xs : List V} {a q : Addr} {i j k : Nat}
/-- a pair as V -/
def PrE (K : PySem.W.Frag) (H : Hp) (p : Nat × Nat) (v : V) : Prop := ∃ b, v = .ref b ∧ SqE K H b [.int (p.1 : Nat), .int (p.2 : Nat)]
theorem PrE.ex {p : Nat × Nat} {v : V} (h : PrE K H p v) (e : Ex H H') : PrE K H' p v := by
  obtain ⟨b, rfl, s⟩ := h
  exact ⟨b, rfl, s.ex e⟩
/-- [.. for x, y in pairs if ..] -/
theorem el_lcP {tl : TE} {n : Nat} (L : List (Nat × Nat)) (f : Nat × Nat → Bool) (g : Nat × Nat → V) (hn : n = 2) (hjk : j ≠ k) (hz : L.length ≤ 40000) (h : Es K tl σ H xs) (pr : Paired (PrE K H) L xs)
    (ht : ∀ p H', Ex H H' → EvT tt ((σ.set j (some (.int (p.1 : Nat)))).set k (some (.int (p.2 : Nat)))) H' (f p))
    (he : ∀ p H', Ex H H' → f p = true → Ev te ((σ.set j (some (.int (p.1 : Nat)))).set k (some (.int (p.2 : Nat)))) H' (g p)) :
    EvL (tLc (iSeq K tl) (gSeq K n (gCons (gName j) (gCons (gName k) gNil))) tt te [j, k]) σ H ((L.filter f).map g) := fun H1 e Q q =>
  h H1 e _ fun a H2 e2 sq => ⟨a, xs, rfl, sq, fun J Gd wk hG D' hD => by
    have hxl : L.length = xs.length := Paired.length pr
    refine lc_gen wk (fun m H' acc => acc = ((L.take m).filter f).map g) (by omega) hD (fun _ _ _ _ _ _ r => r) rfl hG ?_ ?_
    · intro m x Ha Hb acc hi ex y hR Qy Qn hy hn'
      obtain ⟨rfl, hx⟩ := y
      obtain ⟨p, hpL, hp⟩ := Paired.at pr hx
      have e0 := (e.trans e2).trans ex
      obtain ⟨b, rfl, sb⟩ := hp.ex e0
      subst hn
      have tk : L.take (m + 1) = L.take m ++ [p] := by rw [List.take_add_one, hpL]; rfl
      refine ⟨b, _, rfl, sb, rfl, _, _, rfl, _, _, rfl, rfl, ?_⟩
      rw [wipe_two hjk]
      refine ⟨wipe_two' hjk, ?_⟩
      refine ht p _ e0 _ (Ex.refl _) _ fun H3 e3 => ?_
      cases hf : f p with
      | true =>
        rw [if_pos rfl]
        refine he p _ (e0.trans e3) hf _ (Ex.refl _) _ fun H4 e4 => hy _ _ (e3.trans e4) ?_
        rw [tk, hR, List.filter_append, List.map_append, List.filter_cons, if_pos hf]
        rfl
      | false =>
        rw [if_neg (by decide)]
        refine hn' _ e3 ?_
        rw [tk, hR, List.filter_append, List.map_append, List.filter_cons, if_neg (by rw [hf]; decide)]
        simp
    · intro H4 acc e4 hD4 hR
      rw [← hxl, List.take_length] at hR
      exact q D' H4 (ex_fresh e2 hD) (e2.trans e4) (by rw [hD4, hR])⟩
theorem filter_yes {α : Type} (L : List α) : L.filter (fun _ => true) = L := List.filter_eq_self.mpr fun _ _ => rfl
end
/-! ### what two rules give -/
theorem pe_both {X : Cx} {e : Expr} {t u : TE} (h : PE X e t) (k : PE X e u) : PE X e (fun σ H Q => t σ H Q ∨ u σ H Q) :=
  ⟨fun pins s σ H Q I z => z.elim (fun z => h.run pins s σ H Q I z) fun z => k.run pins s σ H Q I z⟩
/-! ### o[::step], the step -1 told by an expression -/
def tBack (K : PySem.W.Frag) (te ts : TE) : TE := fun σ H Q => te σ H fun x H1 => tPart ts σ H1 fun z H2 => z = some (-1) ∧ ∃ a xs, x = .ref a ∧ SqL K H2 a xs ∧ ∀ p, H2 p = none → Q (.ref p) (upd H2 p (.lst xs.reverse))
theorem pe_back {X : Cx} {e st : Expr} {te ts : TE} {p3 pos : Pos} (he : PE X e te) (hst : PE X st ts)
    (hb : ∀ v i : Value, subscripted (.Slice none none (some st) p3) false v i = operate [v, i] (getItem v i) := by intros; with_unfolding_all rfl) : PE X (.Subscript e (.Slice none none (some st) p3) pos) (tBack X.K te ts) := by
  refine ⟨fun pins s0 σ H0 Q I0 h0 => Subscript_ (thn (he.run pins s0 σ H0 _ I0 h0) fun v s1 ⟨x, H1, I1, r1, h1⟩ => wpAny_Slice ?_)⟩
  refine thn (po_none.run pins s1 σ H1 (fun o Hn => o = none ∧ Hn = H1) I1 ⟨rfl, rfl⟩) fun vl s2 ⟨l, H2, I2, pl, h2⟩ => ?_
  obtain ⟨rfl, rfl⟩ := h2
  refine thn (po_none.run pins s2 σ H2 (fun o Hn => o = none ∧ Hn = H2) I2 ⟨rfl, rfl⟩) fun vu s3 ⟨u, H3, I3, pu, h3⟩ => ?_
  obtain ⟨rfl, rfl⟩ := h3
  refine thn ((po_some hst).run pins s3 σ H3 _ I3 h1) fun vz s4 ⟨z, H4, I4, pz, h4⟩ => ?_
  obtain ⟨rfl, b, ys, rfl, sb, kk⟩ := h4
  cases r1
  have I5 := I4.kept (h' := s4.heap.push { cls := .type "slice", data := .fields #[vl, vu, vz] }) (t' := s4.toks) fun c o e => Heap.get?_push_of_some _ e
  obtain ⟨us, ru, pb, zb⟩ := I5.list sb
  refine tail_any pb.isList.typeIs PySem.slot_list_getitem.lookup ?_ (hb _ _)
  refine wpAny_getItem_list_slice pb.isList (Heap.IsSliceOf.new _ vl vu vz) pl pu pz (by decide) ?_ (by rw [List.size_toArray, ← ru.length]; exact zb)
  rw [PySem.W.krv_pick]
  exact ⟨.ref _, _, I5.laid (o := .lst ys.reverse) (t' := s4.toks) (fun c o e => Heap.get?_push_of_some _ e) (Nat.le_refl _) ⟨by rw [List.length_reverse]; exact zb, _, 0, ru.reverse, Heap.get?_push_size _ rfl⟩, rfl, kk _ (I5.hok.fresh (Nat.le_refl _))⟩
section
variable {ta tb tc : TE} {σ : L2.St} {H : Hp} {i j : Int} {r r' : R2} {x y z : V} {k k' : Bool}
theorem rc_max2 : RC (fun xs H Q => ∃ i j, xs = [V.int i, .int j] ∧ Q (.int (if j > i then j else i)) H) [.int i, .int j] H (.int (max i j)) := fun H1 _ Q q => ⟨i, j, rfl, by
  rw [show (if j > i then j else i) = max i j by split <;> omega]
  exact q H1 (Ex.refl H1)⟩
theorem rc_min2 : RC (fun xs H Q => ∃ i j, xs = [V.int i, .int j] ∧ Q (.int (if j < i then j else i)) H) [.int i, .int j] H (.int (min i j)) := fun H1 _ Q q => ⟨i, j, rfl, by
  rw [show (if j < i then j else i) = min i j by split <;> omega]
  exact q H1 (Ex.refl H1)⟩
theorem ev_chainQ (ha : Ev ta σ H x) (hb : Ev tb σ H y) (hr : RV r x y H (.bl k)) (hc : k = true → Ev tc σ H z) (hr' : k = true → RV r' y z H (.bl k')) : Ev (tChain r r' ta tb tc) σ H (.bl (k && k')) := fun H1 e Q q =>
  ha H1 e _ fun H2 e2 => hb H2 (e.trans e2) _ fun H3 e3 => hr H3 ((e.trans e2).trans e3) _ fun H4 e4 => ⟨k, rfl, by
    have e24 := (e2.trans e3).trans e4
    cases k with
    | false => exact q H4 e24
    | true => exact hc rfl H4 (e.trans e24) _ fun H5 e5 => hr' rfl H5 (e.trans (e24.trans e5)) _ fun H6 e6 => q H6 ((e24.trans e5).trans e6)⟩
end
/-! ### short names without a twin -/
theorem ec {ta : TE} {σ : L2.St} {H : Hp} {x : V} {tr : TA} {vs : List V} (h : Ev ta σ H x) (hr : EvA tr σ H vs) : EvA (tCons ta tr) σ H (x :: vs) := Evl.ea_cons h hr
theorem ez {σ : L2.St} {H : Hp} : EvA tNil σ H [] := Evl.ea_nil
theorem s_parA {i j : Nat} {ta : TA} {u v : V} {D : Ends} {σ : L2.St} {H : Hp} (h : EvA ta σ H [u, v]) (k : ∀ H1, Ex H H1 → D.nx ((σ.set i (some u)).set j (some v)) H1) : tPar i j ta D σ H := h H (Ex.refl H) _ fun H1 e => ⟨u, v, rfl, k H1 e⟩
theorem q_parA {i j : Nat} {ta : TA} {tz : TS} {u v : V} {D : Ends} {σ : L2.St} {H : Hp} (h : EvA ta σ H [u, v]) (k : ∀ H1, Ex H H1 → tz D ((σ.set i (some u)).set j (some v)) H1) : tSeq (tPar i j ta) tz D σ H := s_parA (D := { D with nx := tz D }) h k
theorem rc_lenE' {K : PySem.W.Frag} {H : Hp} {a : Addr} {xs : List V} (h : SqE K H a xs) : RC (fun zs H Q => ∃ p ys, zs = [V.ref p] ∧ (SqL K H p ys ∨ SqT K H p ys) ∧ Q (.int (ys.length : Int)) H) [.ref a] H (.int (xs.length : Int)) := fun H1 e Q q => ⟨a, xs, rfl, Or.symm (h.ex e), q H1 (Ex.refl H1)⟩
theorem el_cat2 {ta tb : TE} {σ : L2.St} {H : Hp} {xs ys : List V} (ha : EvL ta σ H xs) (hb : EvL tb σ H ys) (hz : xs.length + ys.length ≤ 100000) : EvL (tOp rCat ta tb) σ H (xs ++ ys) := fun H1 e Q q =>
  ha H1 e _ fun p H2 hp e2 h2 => hb H2 (e.trans e2) _ fun p' H3 hp' e3 h3 => ⟨p, p', xs, ys, rfl, rfl, e3 _ _ h2, h3, by show _ ≤ 2 ^ 24; omega, fun r hr => q r _ (fresh_back (e2.trans e3) hr) ((e2.trans e3).trans (Ex.new hr)) upd_same⟩
theorem rv_eqI2 {H : Hp} {i j : Int} : RV rEq (.int i) (.int j) H (.bl (decide (i = j))) := by
  have e : decide (i = j) = decide (V.int i = V.int j) := decide_eq_decide.mpr ⟨fun h => by rw [h], fun h => by cases h; rfl⟩
  rw [e]
  exact rv_eq rfl
theorem rv_neI2 {H : Hp} {i j : Int} : RV rNe (.int i) (.int j) H (.bl (decide (i ≠ j))) := by
  have e : decide (i ≠ j) = !decide (V.int i = V.int j) := by
    rw [decide_not]
    congr 1
    exact decide_eq_decide.mpr ⟨fun h => by rw [h], fun h => by cases h; rfl⟩
  rw [e]
  exact fun H1 e Q q => ⟨rfl, q H1 (Ex.refl H1)⟩
/-- a block's promise, its ghosts told later -/
theorem tis_any {ι : Type} {X : Cx} {l : List Stmt} {A B : ι → Nat → L2.St → Hp → Prop} (h : ∀ x, Tis X l (A x) (B x)) : ∃ t, PSs X l t ∧ ∀ x i D σ H, A x i σ H → (∀ σ' H', B x i σ' H' → D.nx σ' H') → t D σ H :=
  ⟨fun D σ H => ∃ x i, A x i σ H ∧ ∀ σ' H', B x i σ' H' → D.nx σ' H', ⟨fun pins s σ H D I ⟨x, i, h1, h2⟩ => by
    obtain ⟨t, k1, k2⟩ := h x
    exact k1.run pins s σ H D I (k2 i D σ H h1 h2)⟩, fun x i D σ H h1 h2 => ⟨x, i, h1, h2⟩⟩
theorem el_catV {ta tb : TE} {σ : L2.St} {H : Hp} {D : Addr} {xs ys : List V} (ha : Ev ta σ H (.ref D)) (hD : H D = some (.lst xs)) (hb : EvL tb σ H ys) (hz : xs.length + ys.length ≤ 100000) : EvL (tOp rCat ta tb) σ H (xs ++ ys) := fun H1 e Q q =>
  ha H1 e _ fun H2 e2 => hb H2 (e.trans e2) _ fun p' H3 hp' e3 h3 => ⟨D, p', xs, ys, rfl, rfl, ((e.trans e2).trans e3) _ _ hD, h3, by show _ ≤ 2 ^ 24; omega, fun r hr => q r _ (fresh_back (e2.trans e3) hr) ((e2.trans e3).trans (Ex.new hr)) upd_same⟩
theorem rv_notInD {K : PySem.W.Frag} {H : Hp} {x y : V} {d : PyData} {ds : List PyData} (hx : ∀ H', Ex H H' → Dp K H' x d) (hy : ∀ H', Ex H H' → Dp K H' y (.list ds)) (s1 : SeqAt.shaped d = true) (s2 : SeqAt.shaped (.list ds) = true) : RV (rNotInD K) x y H (.bl (!ds.any fun z => PyData.eqv z d)) := fun H1 e Q q =>
  ⟨d, ds, hx H1 e, hy H1 e, s1, s2, q H1 (Ex.refl H1)⟩
theorem paired_at {α β : Type} {F : α → β → Prop} {L : List α} {xs : List β} {d : α} {e : β} (h : Paired F L xs) : ∀ is : List Nat, (∀ i ∈ is, i < L.length) → Paired F (is.map fun i => L.getD i d) (is.map fun i => xs.getD i e)
  | [], _ => .nil
  | i :: is, hi => .cons (by
      have l := hi i (List.mem_cons_self ..)
      obtain ⟨y, hy, f⟩ := Paired.atL h (List.getElem?_eq_getElem l)
      show F (L.getD i d) (xs.getD i e)
      rw [List.getD_eq_getElem?_getD, List.getElem?_eq_getElem l, List.getD_eq_getElem?_getD, hy]
      exact f) (paired_at h is fun j hj => hi j (List.mem_cons_of_mem _ hj))
/-- a block whose end says True -/
def Te (X : Cx) (l : List Stmt) (A : Nat → L2.St → Hp → Prop) : Prop := ∃ t, PSs X l t ∧ ∀ i D σ H, A i σ H → (∀ H', D.rt (.bl true) H') → t D σ H
theorem Te.cons {X : Cx} {st : Stmt} {l : List Stmt} {A B : Nat → L2.St → Hp → Prop} (h : Ti X st A B) (k : Te X l B) : Te X (st :: l) A := by
  obtain ⟨t, h1, h2⟩ := h
  obtain ⟨u, k1, k2⟩ := k
  exact ⟨_, pss_cons h1 k1, fun i D σ H a q => h2 i { D with nx := u D } σ H a fun σ' H' b => k2 i D σ' H' b q⟩
theorem Te.one {X : Cx} {st : Stmt} {A : Nat → L2.St → Hp → Prop} (h : ∃ t, PS X st t ∧ ∀ i D σ H, A i σ H → (∀ H', D.rt (.bl true) H') → t D σ H) : Te X [st] A := by
  obtain ⟨t, h1, h2⟩ := h
  exact ⟨_, pss_one h1, h2⟩
end Pu
set_option Elab.async false
set_option linter.all false
set_option maxRecDepth 100000
set_option maxHeartbeats 4000000
namespace K11
open PySem PySem.Spec PyProof.Rows L2 GxR Pu Evl
abbrev nCross : List Str := ["_law_one", "_law_other", "_law_low", "_law_high"]
theorem scCross : FnScope nCross ["_law_one", "_law_other"] (defScope sLCross) := ⟨rfl, rfl, rfl, by decide +kernel, rfl, by decide +kernel, by decide +kernel⟩
def spCross (K : PySem.W.Frag) : Sp := fun vs H Q _ => ∃ p q x y, vs = [x, y] ∧ PrE K H p x ∧ PrE K H q y ∧ ∀ H', Ex H H' → Q (.bl (Sh.crossB p q)) H'
section
variable {P : Program} {w : World} {K : PySem.W.Frag} {mg : Str → Option Value} {base : Heap}
theorem ok_cross {f : Addr} {fd : FuncData} (G : Mg mg) (F : Fun K "_law_crosses" "_law_crosses" sLCross f fd) : FnOk P w K mg base CX0 1 f fd ["_law_one", "_law_other"] (spCross K) := by
  refine F.ok scCross (fun vs H Q E h => ?_) (fun cdv A outer s H vs Q E hr h => ?_)
  · obtain ⟨p, q, x, y, rfl, _⟩ := h
    rfl
  · obtain ⟨p, q, x, y, rfl, ⟨a, rfl, ha⟩, ⟨b, rfl, hb⟩, kk⟩ := h
    refine ⟨_, (pss_cons (ps_par (i := 2) (j := 3) rfl scCross.nd rfl rfl (by decide) rfl rfl (pa_cons (pe_callB (call_max2 rfl) (by rfl) G.max boot_max (pa_cons (pe_ix ix_seq (pv 0) pe_int (fun _ _ => rfl)) (pa_cons (pe_ix ix_seq (pv 1) pe_int (fun _ _ => rfl)) pa_nil))) (pa_cons (pe_callB (call_min2 rfl) (by rfl) G.min boot_min (pa_cons (pe_op op_add (pe_ix ix_seq (pv 0) pe_int (fun _ _ => rfl)) (pe_ix ix_seq (pv 0) pe_int (fun _ _ => rfl))) (pa_cons (pe_op op_add (pe_ix ix_seq (pv 1) pe_int (fun _ _ => rfl)) (pe_ix ix_seq (pv 1) pe_int (fun _ _ => rfl))) pa_nil))) pa_nil)) (by rfl))
      (pss_one (ps_ret (pe_and (pe_cmpR op_lt (pv 2) (pv 3) (nomark _)) (pe_one (pe_cmpR op_lt (pe_op op_sub (pv 3) (pv 2)) (pe_callB (call_min2 rfl) (by rfl) G.min boot_min (pa_cons (pe_ix ix_seq (pv 0) pe_int (fun _ _ => rfl)) (pa_cons (pe_ix ix_seq (pv 1) pe_int (fun _ _ => rfl)) pa_nil))) (nomark _))))))), ?_⟩
    have ix0 : ∀ p : Nat × Nat, atI [V.int (p.1 : Nat), .int (p.2 : Nat)] ((0 : Nat) : Int) = some (.int (p.1 : Nat)) := fun p => atI_nat rfl
    have ix1 : ∀ p : Nat × Nat, atI [V.int (p.1 : Nat), .int (p.2 : Nat)] ((1 : Nat) : Int) = some (.int (p.2 : Nat)) := fun p => atI_nat rfl
    refine q_parA (ec (ev_cb (ec (ev_op (ev_var rfl) ev_c (rv_ixQ ha (ix0 p))) (ec (ev_op (ev_var rfl) ev_c (rv_ixQ hb (ix0 q))) ez)) rc_max2)
      (ec (ev_cb (ec (ev_op (ev_op (ev_var rfl) ev_c (rv_ixQ ha (ix0 p))) (ev_op (ev_var rfl) ev_c (rv_ixQ ha (ix1 p))) rv_I0) (ec (ev_op (ev_op (ev_var rfl) ev_c (rv_ixQ hb (ix0 q))) (ev_op (ev_var rfl) ev_c (rv_ixQ hb (ix1 q))) rv_I0) ez)) rc_min2) ez)) fun H1 e1 => ?_
    have e : Sh.crossB p q = (decide (max (p.1 : Int) q.1 < min ((p.1 : Int) + p.2) ((q.1 : Int) + q.2)) && decide (min ((p.1 : Int) + p.2) ((q.1 : Int) + q.2) - max (p.1 : Int) q.1 < min (p.2 : Int) q.2)) := by
      unfold Sh.crossB
      rw [Bool.eq_iff_iff, Bool.and_eq_true, Bool.and_eq_true, decide_eq_true_iff, decide_eq_true_iff, decide_eq_true_iff, decide_eq_true_iff]
      omega
    refine s_ret (ev_andV (ev_op (ev_var rfl) (ev_var rfl) rv_I0) fun _ => ev_op (ev_op (ev_var rfl) (ev_var rfl) rv_I0) (ev_cb (ec (ev_op (ev_var rfl) ev_c (rv_ixQ (ha.ex e1) (ix1 p))) (ec (ev_op (ev_var rfl) ev_c (rv_ixQ (hb.ex e1) (ix1 q))) ez)) rc_min2) rv_I0) fun H2 e2 => ?_
    have := kk H2 (e1.trans e2)
    rw [e] at this
    exact this
end
end K11
set_option Elab.async false
set_option linter.all false
set_option maxRecDepth 100000
set_option maxHeartbeats 4000000
namespace K11
open PySem PySem.Spec PyProof.Rows L2 GxR Pu Evl
abbrev lawN : List Str := ["_law_script", "_law_box_here", "_law_age", "_law_greatest", "_law_many_spans", "_law_laid", "_law_some", "_law_first", "_law_many", "_law_sizes", "_law_row", "_law_due", "_law_seen", "_law_k", "_law_turn", "_law_one", "_law_ask", "_law_bad", "_law_keep", "_law_odd", "_law_other"]
theorem scLaw : FnScope lawN ["_law_script"] (defScope sLaw) := ⟨rfl, rfl, rfl, by decide +kernel, rfl, by decide +kernel, by decide +kernel⟩
def lawS (i : Nat) : Stmt := (defBody sLaw).getD i (.Pass ⟨0, 0, 0, 0⟩)
def inS (i j : Nat) : Stmt := (bodyOf (lawS i)).getD j (.Pass ⟨0, 0, 0, 0⟩)
abbrev LX (P : Program) (w : World) (K : PySem.W.Frag) (mg : Str → Option Value) (base : Heap) (fa : Addr) (cdv : Value) (s0 : Shared) (H0 : Hp) : Cx := (cxOf CX0 P w K mg base lawN "law" (defScope sLaw) fa cdv callerA [] s0 H0 E0).nox
/-- what the law knows: slots and heap, the box at p, keep and age -/
structure C (K : PySem.W.Frag) (Z : Tx) (a : Addr) (ns : List Int) (p : Addr) (k ag : Nat) (σ : L2.St) (H : Hp) : Prop where
  len : σ.length = 21
  v0 : σ[0]? = some (some (.ref a))
  v1 : σ[1]? = some (some (.ref p))
  v2 : σ[2]? = some (some (.int (ag : Int)))
  v18 : σ[18]? = some (some (.int (k : Int)))
  k2 : 2 ≤ k
  k8 : k ≤ 8
  ag24 : ag < 25
  ok : Z.Ok H
  box : BoxAt H p
  scr : Kp Z [p] (fun H => SqL K H a (ns.map V.int)) H
/-- a shape as a tuple of pairs -/
structure Shp (Z : Tx) (p q : Addr) (xs : List V) (L : List (Nat × Nat)) (σ : L2.St) (H : Hp) : Prop where
  sl : σ[6]? = some (some (.ref q))
  kp : Kp Z [p] (fun H => H q = some (.tup xs) ∧ PrT H L xs) H
section
variable {K : PySem.W.Frag} {Z : Tx} {a p q : Addr} {ns : List Int} {k ag : Nat} {xs : List V} {L : List (Nat × Nat)} {σ : L2.St} {H H' : Hp} {i j : Nat} {u : Option V}
theorem C.go (c : C K Z a ns p k ag σ H) (g : Go Z [p] H H') (hb : BoxAt H' p) : C K Z a ns p k ag σ H' := ⟨c.len, c.v0, c.v1, c.v2, c.v18, c.k2, c.k8, c.ag24, g.ok, hb, c.scr.go g⟩
theorem C.ex (c : C K Z a ns p k ag σ H) (e : Ex H H') : C K Z a ns p k ag σ H' := c.go (Go.ex c.ok e) (c.box.ex e)
theorem C.go0 (c : C K Z a ns p k ag σ H) (g : Go Z [] H H') : C K Z a ns p k ag σ H' := c.go g.of0 (c.box.go0 g)
theorem C.set (c : C K Z a ns p k ag σ H) (h : 3 ≤ i ∧ i ≠ 18) : C K Z a ns p k ag (σ.set i u) H := ⟨by rw [List.length_set]; exact c.len, sl_ne c.v0 (by omega), sl_ne c.v1 (by omega), sl_ne c.v2 (by omega), sl_ne c.v18 (by omega), c.k2, c.k8, c.ag24, c.ok, c.box, c.scr⟩
theorem Shp.go (c : Shp Z p q xs L σ H) (g : Go Z [p] H H') : Shp Z p q xs L σ H' := ⟨c.sl, c.kp.go g⟩
theorem Shp.ex (c : Shp Z p q xs L σ H) (h : Z.Ok H) (e : Ex H H') : Shp Z p q xs L σ H' := c.go (Go.ex h e)
theorem Shp.set (c : Shp Z p q xs L σ H) (h : i ≠ 6) : Shp Z p q xs L (σ.set i u) H := ⟨sl_ne c.sl h, c.kp⟩
theorem kp_pr {M : List Addr} (l : Ls M H) (h : PrT H L xs) : Kp Z M (fun H => PrT H L xs) H := fun H' g => Paired.mapP h fun p v ⟨b, e, hb⟩ => ⟨b, e, kp_tup l hb H' g⟩
theorem pr_e (h : PrT H L xs) : Paired (PrE K H) L xs := Paired.mapP h fun p v ⟨b, e, hb⟩ => ⟨b, e, .inl (SqT.of hb)⟩
theorem Go.exT {T : Addr} {M : List Addr} (h : Z.Ok H) (hT : T ∈ Z.ts) (np : Z.p ∉ Z.ts) (t : ExT T H H') (fr : ∀ b, H' b = none → H b = none) : Go Z M H H' := by
  have nT : Z.p ≠ T := fun z => np (z ▸ hT)
  have kp : ∀ b o, (∀ ps, o ≠ .tbl ps) → H b = some o → H' b = some o := fun b o m e => t.2 b o (TabG.ne (h.gs T hT) e m) e
  refine ⟨fun b o _ m e => kp b o m e, fr, fun S hS => ?_, ?_⟩
  · by_cases z : S = T
    · rw [z]; exact t.1
    · obtain ⟨ps, q, r⟩ := h.gs S hS
      exact ⟨ps, t.2 S _ z q, r⟩
  · obtain ⟨ps, q, r, c⟩ := h.lm
    refine ⟨ps, t.2 _ _ nT q, r, fun pos cv hc => ?_⟩
    obtain ⟨d, e1, e2⟩ := c pos cv hc
    exact ⟨d, e1, kp _ _ (fun ps => LamX.codeO_ne ps) e2⟩
end
/-! ### lists that fall -/
theorem perm_srt : ∀ {l m : List Int}, l.Perm m → l.Pairwise (· ≤ ·) → m.Pairwise (· ≤ ·) → l = m
  | [], m, h, _, _ => (List.nil_perm.mp h).symm
  | x :: l, [], h, _, _ => (List.perm_nil.mp h)
  | x :: l, y :: m, h, hl, hm => by
    have hl2 := List.pairwise_cons.mp hl
    have hm2 := List.pairwise_cons.mp hm
    have e : x = y := by
      have a : x ∈ y :: m := h.mem_iff.mp (List.mem_cons_self ..)
      have b : y ∈ x :: l := h.mem_iff.mpr (List.mem_cons_self ..)
      have c : y ≤ x := (List.mem_cons.mp a).elim (fun z => Int.le_of_eq z.symm) fun z => hm2.1 x z
      have d : x ≤ y := (List.mem_cons.mp b).elim (fun z => Int.le_of_eq z.symm) fun z => hl2.1 y z
      omega
    subst e
    rw [perm_srt (List.Perm.cons_inv h) hl2.2 hm2.2]
theorem rev_srt {l m : List Int} (h : l.Perm m) (hl : l.Pairwise (· ≤ ·)) (hm : m.Pairwise (fun a b => b ≤ a)) : l.reverse = m := by
  have : l = m.reverse := perm_srt (h.trans (List.reverse_perm m).symm) hl (List.pairwise_reverse.mpr hm)
  rw [this, List.reverse_reverse]
theorem desc_pair : ∀ {l : List Nat}, Sh.descB l = true → l.Pairwise fun a b => b ≤ a
  | [], _ => .nil
  | [x], _ => List.pairwise_singleton _ _
  | x :: y :: r, h => by
    have h' : (decide (y ≤ x) && Sh.descB (y :: r)) = true := h
    obtain ⟨h1, h2⟩ := Bool.and_eq_true_iff.mp h'
    have ih := desc_pair h2
    refine List.pairwise_cons.mpr ⟨fun z hz => ?_, ih⟩
    have h1 := of_decide_eq_true h1
    rcases List.mem_cons.mp hz with e | hz
    · omega
    · have := (List.pairwise_cons.mp ih).1 z hz
      omega
/-- a list of numbers as V -/
def natV (l : List Nat) : List V := (l.map fun n => ((n : Nat) : Int)).map V.int
def dNat (l : List Nat) : PyData := .list (l.map fun n => PyData.int ((n : Nat) : Int))
theorem dp_all {K : PySem.W.Frag} {H : Hp} : ∀ {l : List Nat}, DpAll K H (natV l) (l.map fun n => PyData.int ((n : Nat) : Int))
  | [] => .nil
  | n :: l => .cons (.int _) dp_all
theorem dp_nat {K : PySem.W.Frag} {H : Hp} {r : Addr} {l : List Nat} (h : SqL K H r (natV l)) : Dp K H (.ref r) (dNat l) := .lst h dp_all
theorem lay_nat : ∀ l : List Nat, PyData.canLayAll0 (l.map fun n => PyData.int ((n : Nat) : Int)) = true
  | [] => rfl
  | n :: l => by
    show (PyData.canLay0 (.int n) && _) = true
    rw [lay_nat l]
    rfl
theorem deep_nat : ∀ l : List Nat, PyData.depthAll (l.map fun n => PyData.int ((n : Nat) : Int)) = 0
  | [] => rfl
  | n :: l => by
    show max (PyData.depth (.int n)) _ = 0
    rw [deep_nat l]
    rfl
theorem shaped_of {d : PyData} (h : PyData.canLay0 d = true) (k : d.depth ≤ 64) : SeqAt.shaped d = true ∧ PyData.eqv d d = true := ⟨by
  unfold SeqAt.shaped
  rw [h, decide_eq_true k]
  rfl, SeqAt.eqv_refl_plain _ (PyData.plain_of_canLay0 _ h)⟩
theorem nat_shaped (l : List Nat) : SeqAt.shaped (dNat l) = true ∧ PyData.eqv (dNat l) (dNat l) = true := shaped_of (lay_nat l) (by
  show PyData.depthAll _ + 1 ≤ 64
  rw [deep_nat]
  decide)
theorem fold_max : ∀ (l : List Nat) (g : Nat), (l.foldl max g ∈ g :: l) ∧ ∀ y ∈ g :: l, y ≤ l.foldl max g
  | [], g => ⟨List.mem_singleton.mpr rfl, fun y hy => by rw [List.mem_singleton.mp hy]; exact Nat.le_refl _⟩
  | x :: l, g => by
    obtain ⟨h1, h2⟩ := fold_max l (max g x)
    refine ⟨?_, fun y hy => ?_⟩
    · show l.foldl max (max g x) ∈ _
      rcases List.mem_cons.mp h1 with e | h
      · rw [e]
        rcases Nat.le_total g x with z | z
        · rw [Nat.max_eq_right z]; exact List.mem_cons_of_mem _ (List.mem_cons_self ..)
        · rw [Nat.max_eq_left z]; exact List.mem_cons_self ..
      · exact List.mem_cons_of_mem _ (List.mem_cons_of_mem _ h)
    · show y ≤ l.foldl max (max g x)
      have h0 := h2 (max g x) (List.mem_cons_self ..)
      rcases List.mem_cons.mp hy with e | hy
      · omega
      · rcases List.mem_cons.mp hy with e | hy
        · omega
        · exact h2 y (List.mem_cons_of_mem _ hy)
theorem rc_maxN {K : PySem.W.Frag} {H : Hp} {p : Addr} {l : List Nat} {g : Nat} (h : H p = some (.lst (natV (g :: l)))) : RC (rMax K) [.ref p] H (.int ((l.foldl max g : Nat) : Int)) := fun H1 e Q q => by
  refine ⟨p, (g :: l).map fun n => ((n : Nat) : Int), rfl, SqL.of (e _ _ h), by simp, fun m hm hy => ?_⟩
  obtain ⟨h1, h2⟩ := fold_max l g
  obtain ⟨n, hn, rfl⟩ := List.mem_map.mp hm
  have a := h2 n hn
  have b := hy _ (List.mem_map.mpr ⟨_, h1, rfl⟩)
  have c : n = l.foldl max g := by omega
  rw [c]
  exact q H1 (Ex.refl H1)
end K11
set_option Elab.async false
set_option linter.all false
set_option maxRecDepth 100000
set_option maxHeartbeats 1000000
namespace K11
open PySem PySem.Spec PyProof.Rows L2 GxR Pu Evl
def A0 (K : PySem.W.Frag) (Z : Tx) (a : Addr) (ns : List Int) (_ : Nat) (σ : L2.St) (H : Hp) : Prop := ∃ p, σ.length = 21 ∧ σ[0]? = some (some (.ref a)) ∧ Z.Ok H ∧ Kp Z [p] (fun H => SqL K H a (ns.map V.int)) H
def A1 (K : PySem.W.Frag) (Z : Tx) (a : Addr) (ns : List Int) (_ : Nat) (σ : L2.St) (H : Hp) : Prop := ∃ p, σ.length = 21 ∧ σ[0]? = some (some (.ref a)) ∧ σ[1]? = some (some (.ref p)) ∧ Z.Ok H ∧ BoxAt H p ∧ Kp Z [p] (fun H => SqL K H a (ns.map V.int)) H
def A2 (K : PySem.W.Frag) (Z : Tx) (a : Addr) (ns : List Int) (_ : Nat) (σ : L2.St) (H : Hp) : Prop := ∃ p k ag, C K Z a ns p k ag σ H
/-- so many were laid: the greatest with a row of that age, the most spans -/
def A3 (K : PySem.W.Frag) (Z : Tx) (a : Addr) (ns : List Int) (p : Addr) (k ag : Nat) (i : Nat) (σ : L2.St) (H : Hp) : Prop := C K Z a ns p k ag σ H ∧ σ[3]? = some (some (.int ((Sh.grU k ag i : Nat) : Int))) ∧ σ[4]? = some (some (.int ((Sh.nsU k ag i : Nat) : Int)))
/-- within a turn: rows are laid, i and one more -/
structure Tu (K : PySem.W.Frag) (Z : Tx) (a : Addr) (ns : List Int) (p : Addr) (k ag i : Nat) (σ : L2.St) (H : Hp) : Prop where
  c : C K Z a ns p k ag σ H
  lt : i < ag + 40
  v3 : σ[3]? = some (some (.int ((Sh.grU k ag i : Nat) : Int)))
  v4 : σ[4]? = some (some (.int ((Sh.nsU k ag i : Nat) : Int)))
  v5 : σ[5]? = some (some (.int ((i + 1 : Nat) : Int)))
def T0 (K : PySem.W.Frag) (Z : Tx) (a : Addr) (ns : List Int) (p : Addr) (k ag : Nat) (i : Nat) (σ : L2.St) (H : Hp) : Prop :=  Tu K Z a ns p k ag i σ H
def T1 (K : PySem.W.Frag) (Z : Tx) (a : Addr) (ns : List Int) (p : Addr) (k ag : Nat) (i : Nat) (σ : L2.St) (H : Hp) : Prop := ∃ q xs, Tu K Z a ns p k ag i σ H ∧ Shp Z p q xs (Sh.shF k (i + 1)) σ H
def T2 (K : PySem.W.Frag) (Z : Tx) (a : Addr) (ns : List Int) (p : Addr) (k ag : Nat) (i : Nat) (σ : L2.St) (H : Hp) : Prop := ∃ q xs r, Tu K Z a ns p k ag i σ H ∧ Shp Z p q xs (Sh.shF k (i + 1)) σ H ∧ σ[9]? = some (some (.ref r)) ∧ H r = some (.lst (natV ((Sh.shF k (i + 1)).map (·.2))))
def T3 (K : PySem.W.Frag) (Z : Tx) (a : Addr) (ns : List Int) (p : Addr) (k ag : Nat) (i : Nat) (σ : L2.St) (H : Hp) : Prop := ∃ q xs, C K Z a ns p k ag σ H ∧ i < ag + 40 ∧ Shp Z p q xs (Sh.shF k (i + 1)) σ H ∧ σ[3]? = some (some (.int ((Sh.grU k ag (i + 1) : Nat) : Int))) ∧ σ[4]? = some (some (.int ((Sh.nsU k ag i : Nat) : Int))) ∧ σ[5]? = some (some (.int ((i + 1 : Nat) : Int)))
section
variable {K : PySem.W.Frag} {Z : Tx} {a p q : Addr} {ns : List Int} {k ag i j : Nat} {σ : L2.St} {H H' : Hp} {u : Option V}
theorem Tu.go (t : Tu K Z a ns p k ag i σ H) (g : Go Z [p] H H') (hb : BoxAt H' p) : Tu K Z a ns p k ag i σ H' := ⟨t.c.go g hb, t.lt, t.v3, t.v4, t.v5⟩
theorem Tu.ex (t : Tu K Z a ns p k ag i σ H) (e : Ex H H') : Tu K Z a ns p k ag i σ H' := t.go (Go.ex t.c.ok e) (t.c.box.ex e)
theorem Tu.set (t : Tu K Z a ns p k ag i σ H) (h : 6 ≤ j ∧ j ≠ 18) : Tu K Z a ns p k ag i (σ.set j u) H := ⟨t.c.set (by omega), t.lt, sl_ne t.v3 (by omega), sl_ne t.v4 (by omega), sl_ne t.v5 (by omega)⟩
end
section
variable {P : Program} {w : World} {K : PySem.W.Frag} {mg : Str → Option Value} {base : Heap} {a fa : Addr} {ns : List Int} {cdv : Value} {s0 : Shared} {H0 : Hp} {Z : Tx}
variable {fBox fTake fPick fSh p : Addr} {dBox dTake dPick dSh : FuncData} {k ag : Nat}
theorem ti_0 (hr : Room 9 (LX P w K mg base fa cdv s0 H0).A) (C1 : Cal P w K mg base "_law_box" ["_law_script", "_law_k"] sBox 1 (spBox K ns) fBox dBox) (hn : ns.length ≤ 100) : Ti (LX P w K mg base fa cdv s0 H0) (lawS 0) (A0 K Z a ns) (A1 K Z a ns) := by
  refine ⟨_, (ps_set (i := 1) scLaw.nd rfl (.inl rfl) (pe_call C1.ok (hr.mono (by decide)) (by rfl) C1.ns.mg C1.ns.fn.kp C1.ns.bd .nil pass0 (pa_cons (pv 0) (pa_cons pe_int pa_nil)))), fun i D σ H hA kk => ?_⟩
  obtain ⟨p, len, h0, hz, scr⟩ := hA
  exact ⟨_, h0, a, 0, rfl, scr.now hz, hn, by omega, fun p' H' hp e hb => kk _ _ ⟨p', by rw [List.length_set]; exact len, sl_ne h0 (by decide), sl_eq (by rw [len]; decide), hz.ex e, hb, scr.renew hp e⟩⟩
theorem ti_1 (hr : Room 9 (LX P w K mg base fa cdv s0 H0).A) (C1 : Cal P w K mg base "_law_take" ["_law_box_here", "_law_many"] sTake 1 spTake fTake dTake) : Ti (LX P w K mg base fa cdv s0 H0) (lawS 1) (A1 K Z a ns) (A2 K Z a ns) := by
  refine ⟨_, (ps_asg (pe_tup (pa_cons (pe_op op_add pe_int (pe_call C1.ok (hr.mono (by decide)) (by rfl) C1.ns.mg C1.ns.fn.kp C1.ns.bd .nil pass0 (pa_cons (pv 1) (pa_cons pe_int pa_nil)))) (pa_cons (pe_call C1.ok (hr.mono (by decide)) (by rfl) C1.ns.mg C1.ns.fn.kp C1.ns.bd .nil pass0 (pa_cons (pv 1) (pa_cons pe_int pa_nil))) pa_nil))) (pg_seq rfl (pgs_cons (pg_name (i := 18) scLaw.nd rfl (.inr rfl)) (pgs_cons (pg_name (i := 2) scLaw.nd rfl (.inl rfl)) pgs_nil)))), fun i D σ H hA kk => ?_⟩
  obtain ⟨p, len, h0, h1, hz, hb, scr⟩ := hA
  refine ⟨.ref p, h1, p, 7, rfl, by decide, by decide, hb, fun d H2 hd xb => ⟨2, (d : Int), rfl, rfl, .ref p, h1, p, 25, rfl, by decide, by decide, xb.1, fun e H3 he xb3 => ?_⟩⟩
  have g2 := Go.box hz hb xb
  have g3 := g2.trans (Go.box g2.ok xb.1 xb3)
  have ed : (2 : Int) + (d : Int) = ((2 + d : Nat) : Int) := by omega
  refine ⟨by show 2 ≤ sizeLine; decide, fun t ht => ⟨t, _, rfl, .inl (SqT.of upd_same), rfl, _, _, rfl, _, _, rfl, rfl, kk _ _ ⟨p, 2 + d, e, ?_⟩⟩⟩
  have x4 := Ex.new ht (o := .tup [V.int (2 + (d : Int)), .int (e : Int)])
  refine ⟨by rw [List.length_set, List.length_set]; exact len, sl_ne (sl_ne h0 (by decide)) (by decide), sl_ne (sl_ne h1 (by decide)) (by decide), sl_eq (by rw [List.length_set, len]; decide), ?_, by omega, by omega, he, g3.ok.ex x4, xb3.1.ex x4, (scr.go g3).go (Go.ex g3.ok x4)⟩
  rw [← ed]
  exact sl_ne (sl_eq (by rw [len]; decide)) (by decide)
theorem ti_2 : Ti (LX P w K mg base fa cdv s0 H0) (lawS 2) (A2 K Z a ns) (fun _ σ H => ∃ p k ag, A3 K Z a ns p k ag 0 σ H) := by
  refine ⟨_, (ps_asg (pe_tup (pa_cons pe_int (pa_cons pe_int pa_nil))) (pg_seq rfl (pgs_cons (pg_name (i := 3) scLaw.nd rfl (.inl rfl)) (pgs_cons (pg_name (i := 4) scLaw.nd rfl (.inl rfl)) pgs_nil)))), fun i D σ H hA kk => ?_⟩
  obtain ⟨p, k, ag, c⟩ := hA
  refine ⟨by show 2 ≤ sizeLine; decide, fun t ht => ⟨t, _, rfl, .inl (SqT.of upd_same), rfl, _, _, rfl, _, _, rfl, rfl, kk _ _ ⟨p, k, ag, ((c.ex (Ex.new ht)).set (by omega)).set (by omega), sl_ne (sl_eq (by rw [c.len]; decide)) (by decide), sl_eq (by rw [List.length_set, c.len]; decide)⟩⟩⟩
theorem in_30 (hr : Room 9 (LX P w K mg base fa cdv s0 H0).A) (C1 : Cal P w K mg base "shape" ["keep", "first", "laid"] sShape 6 (spSh pShape) fSh dSh) : Ti (LX P w K mg base fa cdv s0 H0) (inS 3 0) (T0 K Z a ns p k ag) (T1 K Z a ns p k ag) := by
  refine ⟨_, (ps_set (i := 6) scLaw.nd rfl (.inl rfl) (pe_call C1.ok (hr.mono (by decide)) (by rfl) C1.ns.mg C1.ns.fn.kp C1.ns.bd .nil pass0 (pa_cons (pv 18) (pa_cons pe_int (pa_cons (pv 5) pa_nil))))), fun i D σ H hA kk => ?_⟩
  have t := hA
  have l64 : i + 1 ≤ 64 := by have := t.lt; have := t.c.ag24; omega
  refine ⟨_, t.c.v18, _, t.v5, _, ⟨k, 0, i + 1, rfl, t.c.k2, t.c.k8, Nat.zero_le _, by omega, rfl⟩, fun q xs H' hq e h1 h2 => kk _ _ ⟨q, xs, (t.ex e).set (by decide), sl_eq (by rw [t.c.len]; decide), ?_⟩⟩
  rw [← Sh.shF_eq l64] at h2
  have bx := (t.c.box.ex e).ls
  exact (kp_tup bx h1).and (kp_pr bx h2)
theorem in_31 : Ti (LX P w K mg base fa cdv s0 H0) (inS 3 1) (T1 K Z a ns p k ag) (T2 K Z a ns p k ag) := by
  refine ⟨_, (ps_setLc (i := 9) (own := [("_law_first", 7), ("_law_many", 8)]) (g := gSeq K 2 (gCons (gName 7) (gCons (gName 8) gNil))) (te := (tVar 8)) (by rfl) scLaw.nd rfl rfl (sw_true rfl rfl rfl (by decide +kernel)) (pi_seq (pv 6)) (blkOk_by (own := [("_law_first", 7), ("_law_many", 8)]) (N := lawN) (sc := defScope sLaw) (by decide +kernel)) (fun _ _ _ _ _ => (pg_seq rfl (pgs_cons (pg_name (i := 7) scLaw.nd rfl (.inl rfl)) (pgs_cons (pg_name (i := 8) scLaw.nd rfl (.inl rfl)) pgs_nil)))) (fun _ _ _ _ _ => pts_nil) (fun _ _ _ _ _ => (pv 8))), fun i D σ H hA kk => ?_⟩
  obtain ⟨q, xs, t, s⟩ := hA
  have hq := s.kp.now t.c.ok
  have l64 : i + 1 ≤ 64 := by have := t.lt; have := t.c.ag24; omega
  have hl : (Sh.shF k (i + 1)).length ≤ 64 := by rw [Sh.shF_eq l64]; exact Nat.le_trans (Sh.shp_len t.c.k2) (by omega)
  refine s_asgL (el_lcP (K := K) (Sh.shF k (i + 1)) (fun _ => true) (fun p => .int ((p.2 : Nat) : Int)) rfl (by decide) (by omega) (Es.var s.sl (.inl (SqT.of hq.1))) (pr_e hq.2) (fun p H' e => et_yes) fun p H' e _ => ev_var (sl_eq (by rw [List.length_set, t.c.len]; decide))) fun r H' hr e hr' => kk _ _ ⟨q, xs, r, (t.ex e).set (by decide), (s.ex t.c.ok e).set (by decide), sl_eq (by rw [t.c.len]; decide), ?_⟩
  rw [hr', filter_yes]
  unfold natV
  rw [List.map_map, List.map_map]
  rfl
theorem in_32 (hr : Room 9 (LX P w K mg base fa cdv s0 H0).A) (G : Mg mg) : Ti (LX P w K mg base fa cdv s0 H0) (inS 3 2) (T2 K Z a ns p k ag) (T1 K Z a ns p k ag) := by
  have hu : (LX P w K mg base fa cdv s0 H0).A.units + 64 < cLine := hr.units
  refine ⟨_, (ps_if (pt_cmpR (op_neD hu) (pv 9) (pe_back (pe_callB cr_sortedI (by rfl) G.sorted (by decide +kernel) (pa_cons (pv 9) pa_nil)) (pe_op op_sub pe_int pe_int)) (nomark _)) (pss_one (ps_ret pe_bl)) pss_nil), fun i D σ H hA kk => ?_⟩
  obtain ⟨q, xs, r, t, s, h9, hr9⟩ := hA
  have l64 : i + 1 < 65 := by have := t.lt; have := t.c.ag24; omega
  refine ⟨.ref r, h9, .ref r, h9, r, (((Sh.shF k (i + 1)).map fun x : Nat × Nat => x.2).map fun n : Nat => (n : Int)), rfl, SqL.of hr9, fun ns' l pm st hl => ⟨0, 1, rfl, rfl, -1, rfl, rfl, l, _, rfl, SqL.of upd_same, fun m hm => ?_⟩⟩
  have dp := desc_pair (Sh.desc t.c.k2 t.c.k8 l64)
  have rv : (ns'.map V.int).reverse = natV ((Sh.shF k (i + 1)).map (·.2)) := by
    rw [← List.map_reverse, rev_srt pm st (by rw [List.pairwise_map]; exact dp.imp fun h => by omega)]
    rfl
  have x1 := Ex.new hl (o := .lst (ns'.map V.int))
  have x2 := Ex.new hm (o := .lst (ns'.map V.int).reverse)
  obtain ⟨z1, z2⟩ := nat_shaped ((Sh.shF k (i + 1)).map (·.2))
  refine ⟨_, _, dp_nat (SqL.of ((x1.trans x2) _ _ hr9)), dp_nat (by rw [← rv]; exact SqL.of upd_same), z1, z1, false, by rw [z2]; rfl, ite2 (fun z => nomatch z) fun _ => kk _ _ ⟨q, xs, t.ex (x1.trans x2), s.ex t.c.ok (x1.trans x2)⟩⟩
theorem in_33 (G : Mg mg) : Ti (LX P w K mg base fa cdv s0 H0) (inS 3 3) (T1 K Z a ns p k ag) (T3 K Z a ns p k ag) := by
  refine ⟨_, (ps_if (pt_cmpR op_gt (pv 5) (pv 2) (nomark _)) (pss_cons (ps_set (i := 10) scLaw.nd rfl (.inr rfl) (pe_op op_sub (pe_op op_sub (pv 5) pe_int) (pv 2)))
    (pss_one (ps_set (i := 3) scLaw.nd rfl (.inl rfl) (pe_callB (cr_max rfl) (by rfl) G.max boot_max (pa_cons (pe_op op_cat (pe_lst (pa_cons (pv 3) pa_nil)) (pe_lc (own := [("_law_first", 7), ("_law_many", 8)]) (g := gSeq K 2 (gCons (gName 7) (gCons (gName 8) gNil))) (te := (tVar 8)) (tt := tTest (tChain (rI0 fun i j => .bl (decide (i ≤ j))) (rI0 fun i j => .bl (decide (i < j))) (tVar 7) (tVar 10) (tOp (rI0 fun i j => .int (i + j)) (tVar 7) (tVar 8)))) (by rfl) scLaw.nd (pi_seq (pv 6)) (blkOk_by (own := [("_law_first", 7), ("_law_many", 8)]) (N := lawN) (sc := defScope sLaw) (by decide +kernel)) (fun _ _ _ _ _ => (pg_seq rfl (pgs_cons (pg_name (i := 7) scLaw.nd rfl (.inl rfl)) (pgs_cons (pg_name (i := 8) scLaw.nd rfl (.inl rfl)) pgs_nil)))) (fun _ _ _ _ _ => pts_one (pt_chain op_le op_lt (pv 7) (pv 10) (pe_op op_add (pv 7) (pv 8)))) (fun _ _ _ _ _ => (pv 8)))) pa_nil))))) pss_nil), fun i D σ H hA kk => ?_⟩
  obtain ⟨q, xs, t, s⟩ := hA
  have l64 : i + 1 ≤ 64 := by have := t.lt; have := t.c.ag24; omega
  have hl : (Sh.shF k (i + 1)).length ≤ 64 := by rw [Sh.shF_eq l64]; exact Nat.le_trans (Sh.shp_len t.c.k2) (by omega)
  refine s_if (et_test (ev_op (ev_var t.v5) (ev_var t.c.v2) rv_I0)) (fun z H1 e1 => ?_) (fun z H1 e1 => ?_)
  · have lt : ag < i + 1 := by have := of_decide_eq_true z; omega
    have er : ((((i + 1 : Nat) : Int)) - 1 - (ag : Int)) = ((i - ag : Nat) : Int) := by omega
    refine q_asg (ev_is (ev_op (ev_op (ev_var t.v5) ev_c rv_I0) (ev_var t.c.v2) rv_I0) (by rw [er])) fun H2 e2 => ?_
    have e12 := e1.trans e2
    have s2 := (s.ex t.c.ok e12).set (i := 10) (u := some (.int ((i - ag : Nat) : Int))) (by decide)
    have ok2 := t.c.ok.ex e12
    have hq := s2.kp.now ok2
    have v3 : (σ.set 10 (some (.int ((i - ag : Nat) : Int))))[3]? = _ := sl_ne t.v3 (by decide)
    have v10 : (σ.set 10 (some (.int ((i - ag : Nat) : Int))))[10]? = _ := sl_eq (by rw [t.c.len]; decide)
    have el := el_cat2 (H := H2) (el_lst (ec (ev_var v3) ez) (by show 1 ≤ 100000; decide)) (el_lcP (K := K) (j := 7) (k := 8) (Sh.shF k (i + 1)) (Sh.hasR (i - ag)) (fun p => .int ((p.2 : Nat) : Int)) rfl (by decide) (by omega) (Es.var s2.sl (.inl (SqT.of hq.1))) (pr_e hq.2)
      (tt := tTest (tChain (rI0 fun i j => .bl (decide (i ≤ j))) (rI0 fun i j => .bl (decide (i < j))) (tVar 7) (tVar 10) (tOp (rI0 fun i j => .int (i + j)) (tVar 7) (tVar 8)))) (te := tVar 8)
      (fun p H' e => by
        have h7 : (((σ.set 10 (some (.int ((i - ag : Nat) : Int)))).set 7 (some (.int (p.1 : Nat)))).set 8 (some (.int (p.2 : Nat))))[7]? = _ := sl_ne (sl_eq (by rw [List.length_set, t.c.len]; decide)) (by decide)
        have h8 : (((σ.set 10 (some (.int ((i - ag : Nat) : Int)))).set 7 (some (.int (p.1 : Nat)))).set 8 (some (.int (p.2 : Nat))))[8]? = _ := sl_eq (by rw [List.length_set, List.length_set, t.c.len]; decide)
        refine et_is (et_test (ev_chainQ (ev_var h7) (ev_var (sl_ne (sl_ne v10 (by decide)) (by decide))) rv_I0 (fun _ => ev_op (ev_var h7) (ev_var h8) rv_I0) fun _ => rv_I0)) ?_
        unfold Sh.hasR
        rw [Bool.eq_iff_iff, Bool.and_eq_true, Bool.and_eq_true, decide_eq_true_iff, decide_eq_true_iff, decide_eq_true_iff, decide_eq_true_iff]
        omega)
      fun p H' e _ => ev_var (sl_eq (by rw [List.length_set, List.length_set, t.c.len]; decide))) (by rw [List.length_map]; have := List.length_filter_le (Sh.hasR (i - ag)) (Sh.shF k (i + 1)); show 1 + _ ≤ 100000; omega)
    have en : [V.int ((Sh.grU k ag i : Nat) : Int)] ++ (((Sh.shF k (i + 1)).filter (Sh.hasR (i - ag))).map fun p => V.int ((p.2 : Nat) : Int)) = natV (Sh.grU k ag i :: Sh.sizesAt k ag (i + 1)) := by
      unfold natV Sh.sizesAt
      rw [show i + 1 - 1 - ag = i - ag by omega, List.map_cons, List.map_cons, List.map_map, List.map_map]
      rfl
    rw [en] at el
    refine s_asg (ev_cbL el fun r H3 h3 => rc_maxN h3) fun H3 e3 => ?_
    have e13 := e12.trans e3
    have eg : (Sh.sizesAt k ag (i + 1)).foldl max (Sh.grU k ag i) = Sh.grU k ag (i + 1) := by
      show _ = if ag < i + 1 then _ else _
      rw [if_pos lt]
    rw [eg]
    exact kk _ _ ⟨q, xs, ((t.c.ex e13).set (by decide)).set (by decide), t.lt, ((s.ex t.c.ok e13).set (by decide)).set (by decide), sl_eq (by rw [List.length_set, t.c.len]; decide), sl_ne (sl_ne t.v4 (by decide)) (by decide), sl_ne (sl_ne t.v5 (by decide)) (by decide)⟩
  · have nl : ¬ ag < i + 1 := by have := of_decide_eq_false z; omega
    have eg : Sh.grU k ag i = Sh.grU k ag (i + 1) := by
      show _ = if ag < i + 1 then _ else _
      rw [if_neg nl]
    exact kk _ _ ⟨q, xs, t.c.ex e1, t.lt, s.ex t.c.ok e1, by rw [← eg]; exact t.v3, t.v4, t.v5⟩
theorem in_34 (G : Mg mg) : Ti (LX P w K mg base fa cdv s0 H0) (inS 3 4) (T3 K Z a ns p k ag) (fun i => A3 K Z a ns p k ag (i + 1)) := by
  refine ⟨_, (ps_if (pt_cmpR op_le (pv 5) (pe_op op_add (pv 2) pe_int) (nomark _)) (pss_one (ps_set (i := 4) scLaw.nd rfl (.inl rfl) (pe_callB (call_max2 rfl) (by rfl) G.max boot_max (pa_cons (pv 4) (pa_cons (pe_callB call_len_seq (by rfl) G.len PySem.boot_len (pa_cons (pv 6) pa_nil)) pa_nil))))) pss_nil), fun i D σ H hA kk => ?_⟩
  obtain ⟨q, xs, c, lt, s, v3, v4, v5⟩ := hA
  refine s_if (et_test (ev_op (ev_var v5) (ev_op (ev_var c.v2) ev_c rv_I0) rv_I0)) (fun z H1 e1 => ?_) (fun z H1 e1 => ?_)
  · have le : i + 1 ≤ ag + 3 := by have := of_decide_eq_true z; omega
    have hq := (s.ex c.ok e1).kp.now (c.ok.ex e1)
    have hxl : (Sh.shF k (i + 1)).length = xs.length := Paired.length hq.2
    have en : max ((Sh.nsU k ag i : Nat) : Int) (xs.length : Int) = ((Sh.nsU k ag (i + 1) : Nat) : Int) := by
      have : Sh.nsU k ag (i + 1) = max (Sh.nsU k ag i) (Sh.shF k (i + 1)).length := by
        show (if i + 1 ≤ ag + 3 then _ else _) = _
        rw [if_pos le]
      rw [this, hxl]
      omega
    refine s_asg (ev_is (ev_cb (ec (ev_var v4) (ec (ev_cb (ec (ev_var s.sl) ez) (rc_lenE' (.inl (SqT.of hq.1)))) ez)) rc_max2) (by rw [en])) fun H2 e2 => ?_
    exact kk _ _ ⟨(c.ex (e1.trans e2)).set (by decide), sl_ne v3 (by decide), sl_eq (by rw [c.len]; decide)⟩
  · have nl : ¬ i + 1 ≤ ag + 3 := by have := of_decide_eq_false z; omega
    have en : Sh.nsU k ag i = Sh.nsU k ag (i + 1) := by
      show _ = if i + 1 ≤ ag + 3 then _ else _
      rw [if_neg nl]
    exact kk _ _ ⟨c.ex e1, v3, by rw [← en]; exact v4⟩
theorem ti_3 (G : Mg mg) (hb : ∀ p k ag, Tis (LX P w K mg base fa cdv s0 H0) (bodyOf (lawS 3)) (T0 K Z a ns p k ag) (fun i => A3 K Z a ns p k ag (i + 1))) : Ti (LX P w K mg base fa cdv s0 H0) (lawS 3) (fun _ σ H => ∃ p k ag, A3 K Z a ns p k ag 0 σ H) (fun _ σ H => ∃ p k ag, A3 K Z a ns p k ag (ag + 40) σ H) := by
  obtain ⟨tb, hb1, hb2⟩ := tis_any (ι := Addr × Nat × Nat) (A := fun x => T0 K Z a ns x.1 x.2.1 x.2.2) (B := fun x i => A3 K Z a ns x.1 x.2.1 x.2.2 (i + 1)) fun x => hb x.1 x.2.1 x.2.2
  refine ⟨_, (ps_for PassesOwn.never rfl (pi_range2 (by rfl) G.range (pa_cons pe_int (pa_cons (pe_op op_add (pv 2) pe_int) pa_nil))) (pg_name (i := 5) scLaw.nd rfl (.inl rfl)) hb1), fun i D σ H hA kk => ?_⟩
  obtain ⟨p, k, ag, c, w3, w4⟩ := hA
  have a24 := c.ag24
  refine s_forR2 (lo := 1) (n := (ag : Int) + 41) (ec ev_c (ec (ev_op (ev_var c.v2) ev_c rv_I0) ez)) ⟨by decide, by decide, by omega, by omega⟩ (fun m σ' H' => A3 K Z a ns p k ag m σ' H') (fun H1 e => ⟨c.ex e, w3, w4⟩) (fun m σ' H' hm hP => ?_) fun σ' H' hP => ?_
  · obtain ⟨c', v3, v4⟩ := hP
    refine hb2 (p, k, ag) m _ _ _ ⟨c'.set (by omega), by show m < ag + 40; omega, sl_ne v3 (by decide), sl_ne v4 (by decide), ?_⟩ fun σ' H' h => h
    rw [show (1 : Int) + (m : Int) = ((m + 1 : Nat) : Int) by omega]
    exact sl_eq (by rw [c'.len]; decide)
  · rw [show (((ag : Int) + 41 - 1).toNat) = ag + 40 by omega] at hP
    exact kk _ _ ⟨p, k, ag, hP⟩
end
end K11
set_option Elab.async false
set_option linter.all false
set_option maxRecDepth 100000
set_option maxHeartbeats 1000000
namespace K11
open PySem PySem.Spec PyProof.Rows L2 GxR Pu Evl
theorem spMost.use {Z : Tx} {Cr : Addr} {F : Nat → Nat → Nat} {k ag : Nat} {H : Hp} (h2 : 2 ≤ k) (h8 : k ≤ 8) (ha : ag ≤ 1000) (hz : Z.Ok H) : SpV (spMost Z Cr F) [.int (k : Int), .int (ag : Int)] H (.int ((F k ag : Nat) : Int)) := fun H1 e Q q E =>
  ⟨_, _, rfl, hz.ex e, rfl, .inr ⟨k, rfl, h2, h8, rfl, .inr ⟨ag, rfl, ha, fun H' e' => q H' e'⟩⟩⟩
theorem shown_int {K : PySem.W.Frag} {H : Hp} {n : Nat} (h : n ≤ 1000000) : Shown K H (.int (n : Int)) (Str.ofString (toString (n : Int))) := .inl ⟨rfl, by show decide _ = true; exact decide_eq_true (by omega)⟩
theorem rc_reprS {K : PySem.W.Frag} {H : Hp} {x : V} {s : Str} (h : ∀ H', Ex H H' → Shown K H' x s) : RC (rReprS K) [x] H (.str s) := fun H1 e Q q => ⟨x, s, rfl, h H1 e, q H1 (Ex.refl H1)⟩
def A4 (K : PySem.W.Frag) (Z : Tx) (a : Addr) (ns : List Int) (_ : Nat) (σ : L2.St) (H : Hp) : Prop := ∃ p k ag, C K Z a ns p k ag σ H ∧ σ[3]? = some (some (.int ((Sh.mm k ag : Nat) : Int))) ∧ σ[4]? = some (some (.int ((Sh.ms k (ag + 3) : Nat) : Int))) ∧ σ[11]? = some (some (.int ((Sh.mm k ag : Nat) : Int))) ∧ Sh.mm k ag ≤ 1 + ag / (k - 1)
def A5 (K : PySem.W.Frag) (Z : Tx) (a : Addr) (ns : List Int) (_ : Nat) (σ : L2.St) (H : Hp) : Prop := ∃ p k ag, C K Z a ns p k ag σ H ∧ σ[4]? = some (some (.int ((Sh.ms k (ag + 3) : Nat) : Int)))
/-- what is laid: a shape of rows f up to l, and the spans seen -/
structure Sn (K : PySem.W.Frag) (Z : Tx) (a : Addr) (ns : List Int) (p : Addr) (k ag f l : Nat) (S : List (Nat × Nat)) (q D : Addr) (xs ys : List V) (σ : L2.St) (H : Hp) : Prop where
  c : C K Z a ns p k ag σ H
  s : Shp Z p q xs (Sh.shp k f l) σ H
  v5 : σ[5]? = some (some (.int (l : Int)))
  v12 : σ[12]? = some (some (.ref D))
  kp : Kp Z [p] (fun H => H D = some (.lst ys) ∧ PrT H S ys) H
  fl : f ≤ l
  seen : Sh.Seen k f l S
  sz : S.length ≤ 64 * l
def A7 (K : PySem.W.Frag) (Z : Tx) (a : Addr) (ns : List Int) (i : Nat) (σ : L2.St) (H : Hp) : Prop := ∃ p k ag f l S q D xs ys, Sn K Z a ns p k ag f l S q D xs ys σ H ∧ l ≤ 3 * i
section
variable {P : Program} {w : World} {K : PySem.W.Frag} {mg : Str → Option Value} {base : Heap} {a fa : Addr} {ns : List Int} {cdv : Value} {s0 : Shared} {H0 : Hp} {Z : Tx}
variable {fMM fMS Cr : Addr} {dMM dMS : FuncData}
theorem ti_4 (hr : Room 9 (LX P w K mg base fa cdv s0 H0).A) (C1 : CalX P w K mg base "most_many" ["keep", "age"] sMostMany 4 (spMost Z Cr Sh.mm) fMM dMM) : Ti (LX P w K mg base fa cdv s0 H0) (lawS 4) (fun _ σ H => ∃ p k ag, A3 K Z a ns p k ag (ag + 40) σ H) (A4 K Z a ns) := by
  refine ⟨_, (ps_set (i := 11) scLaw.nd rfl (.inl rfl) (pe_call C1.ok (hr.mono (by decide)) (by rfl) C1.ns.mg C1.ns.fn.kp C1.ns.bd .nil passL (pa_cons (pv 18) (pa_cons (pv 2) pa_nil)))), fun i D σ H hA kk => ?_⟩
  obtain ⟨p, k, ag, c, v3, v4⟩ := hA
  obtain ⟨b1, b2, b3⟩ := Sh.bounds c.k2 c.k8 c.ag24
  rw [b1] at v3
  rw [b3] at v4
  have a24 := c.ag24
  refine s_asg (ev_call (ec (ev_var c.v18) (ec (ev_var c.v2) ez)) (spMost.use c.k2 c.k8 (by omega) c.ok)) fun H1 e1 => kk _ _ ⟨p, k, ag, (c.ex e1).set (by omega), sl_ne v3 (by decide), sl_ne v4 (by decide), sl_eq (by rw [c.len]; decide), b2⟩
theorem ti_5 (hr : Room 9 (LX P w K mg base fa cdv s0 H0).A) (G : Mg mg) (C1 : CalX P w K mg base "most_many" ["keep", "age"] sMostMany 4 (spMost Z Cr Sh.mm) fMM dMM) (W1 : KwOk K dMM ["keep", "age"] ["age", "keep"] (perm [1, 0]) (perm [1, 0])) : Ti (LX P w K mg base fa cdv s0 H0) (lawS 5) (A4 K Z a ns) (A5 K Z a ns) := by
  have hu : (LX P w K mg base fa cdv s0 H0).A.units + 64 < cLine := hr.units
  have hg : (LX P w K mg base fa cdv s0 H0).A.guards = some [] := rfl
  refine ⟨_, (ps_if (PW.pt (pw_or (pt_cmpR op_ne (pe_callW C1.ok (hr.mono (by decide)) (by rfl) C1.ns.mg C1.ns.fn.kp W1 passL (pk_cons (pv 2) (pk_cons (pv 18) pk_nil))) (pv 11) (nomark _)) (pw_or (pt_cmpR op_gt (pv 3) (pv 11) (nomark _)) (pw_or (pt_cmpR op_gt (pv 11) (pe_op op_add pe_int (pe_op op_fdiv (pv 2) (pe_op op_sub (pv 18) pe_int))) (nomark _)) (pw_or1 (pt_cmpR op_ne (pe_callB (cr_reprS hu hg) (by rfl) G.repr boot_repr (pa_cons (pv 11) pa_nil)) (pe_callB (cr_reprS hu hg) (by rfl) G.repr boot_repr (pa_cons (pv 3) pa_nil)) (nomark _))))))) (pss_one (ps_ret pe_bl)) pss_nil), fun i D σ H hA kk => ?_⟩
  obtain ⟨p, k, ag, c, v3, v4, v11, le⟩ := hA
  have a24 := c.ag24
  have k2 := c.k2
  have k8 := c.k8
  have dv : (ag : Int) / ((k : Int) - 1) = ((ag / (k - 1) : Nat) : Int) := by
    rw [show ((k : Int) - 1) = ((k - 1 : Nat) : Int) by omega, Int.natCast_ediv]
  have d25 : ag / (k - 1) ≤ ag := Nat.div_le_self _ _
  have rp : ∀ H1, Ev (tCB (rReprS K) (tCons (tVar 11) tNil)) σ H1 (.str (Str.ofString (toString ((Sh.mm k ag : Nat) : Int)))) := fun H1 => ev_cb (ec (ev_var v11) ez) (rc_reprS fun _ _ => shown_int (by omega))
  have rp3 : ∀ H1, Ev (tCB (rReprS K) (tCons (tVar 3) tNil)) σ H1 (.str (Str.ofString (toString ((Sh.mm k ag : Nat) : Int)))) := fun H1 => ev_cb (ec (ev_var v3) ez) (rc_reprS fun _ _ => shown_int (by omega))
  refine s_if (et_is (et_or (et_test (ev_op (ev_callW (vs := [.int (ag : Int), .int (k : Int)]) (ec (ev_var c.v2) (ec (ev_var c.v18) ez)) (spMost.use c.k2 c.k8 (by omega) c.ok)) (ev_var v11) rv_neI2)) fun _ =>
      et_or (et_test (ev_op (ev_var v3) (ev_var v11) rv_I0)) fun _ =>
      et_or (et_test (ev_op (ev_var v11) (ev_op ev_c (ev_op (ev_var c.v2) (ev_op (ev_var c.v18) ev_c rv_I0) (rv_I ⟨by omega, by omega⟩)) rv_I0) rv_I0)) fun _ =>
      et_test (ev_op (rp _) (rp3 _) rv_neS)) (b := false) ?_) (fun z => nomatch z) fun _ H1 e1 => kk _ _ ⟨p, k, ag, c.ex e1, v4⟩
  rw [dv, decide_eq_false (by omega), decide_eq_false (by omega), decide_eq_false (by omega)]
  rfl
theorem ti_6 (hr : Room 9 (LX P w K mg base fa cdv s0 H0).A) (G : Mg mg) (C1 : CalX P w K mg base "most_spans" ["keep", "rows"] sMostSpans 4 (spMost Z Cr Sh.ms) fMS dMS) (W1 : KwOk K dMS ["keep", "rows"] ["rows", "keep"] (perm [1, 0]) (perm [1, 0])) : Ti (LX P w K mg base fa cdv s0 H0) (lawS 6) (A5 K Z a ns) (A2 K Z a ns) := by
  have hu : (LX P w K mg base fa cdv s0 H0).A.units + 64 < cLine := hr.units
  have hg : (LX P w K mg base fa cdv s0 H0).A.guards = some [] := rfl
  refine ⟨_, (ps_if (pt_cmpR op_ne (pe_callB (cr_repr hu hg) (by rfl) G.repr boot_repr (pa_cons (pe_lst (pa_cons (pe_call C1.ok (hr.mono (by decide)) (by rfl) C1.ns.mg C1.ns.fn.kp C1.ns.bd .nil passL (pa_cons (pv 18) (pa_cons (pe_op op_add (pv 2) pe_int) pa_nil))) (pa_cons (pe_callW C1.ok (hr.mono (by decide)) (by rfl) C1.ns.mg C1.ns.fn.kp W1 passL (pk_cons (pe_op op_add (pv 2) pe_int) (pk_cons (pv 18) pk_nil))) pa_nil))) pa_nil)) (pe_callB (cr_repr hu hg) (by rfl) G.repr boot_repr (pa_cons (pe_lst (pa_cons (pv 4) (pa_cons (pv 4) pa_nil))) pa_nil)) (nomark _)) (pss_one (ps_ret pe_bl)) pss_nil), fun i D σ H hA kk => ?_⟩
  obtain ⟨p, k, ag, c, v4⟩ := hA
  have a24 := c.ag24
  have e3 : ((ag : Int) + 3) = ((ag + 3 : Nat) : Int) := by omega
  have b := (Sh.bounds c.k2 c.k8 c.ag24).2.2
  have le : Sh.ms k (ag + 3) ≤ 1000000 := by
    rw [← b]
    exact Nat.le_trans (Sh.nsU_le c.k2 (by omega)) (by decide)
  have dp : ∀ {q : Addr} {H1 : Hp}, H1 q = some (.lst [.int ((Sh.ms k (ag + 3) : Nat) : Int), .int ((Sh.ms k (ag + 3) : Nat) : Int)]) → Dp K H1 (.ref q) (.list [.int ((Sh.ms k (ag + 3) : Nat) : Int), .int ((Sh.ms k (ag + 3) : Nat) : Int)]) := fun h => .lst (SqL.of h) (.cons (.int _) (.cons (.int _) .nil))
  have ag3 : ∀ H1, Ev (tOp (rI0 fun i j => .int (i + j)) (tVar 2) (tC (.int 3))) σ H1 (.int ((ag + 3 : Nat) : Int)) := fun H1 => ev_is (ev_op (ev_var c.v2) ev_c rv_I0) (by rw [e3])
  refine s_if (et_neS (ev_reprL (el_lst (ec (ev_call (ec (ev_var c.v18) (ec (ag3 _) ez)) (spMost.use c.k2 c.k8 (by omega) c.ok)) (ec (ev_callW (vs := [.int ((ag + 3 : Nat) : Int), .int (k : Int)]) (ec (ag3 _) (ec (ev_var c.v18) ez)) (spMost.use c.k2 c.k8 (by omega) c.ok)) ez)) (by show 2 ≤ 100000; decide)) (fun _ _ _ h => dp h) rfl (Sm.two (Sm.int le) (Sm.int le)) (by decide) (by decide))
      (ev_reprL (el_lst (ec (ev_var v4) (ec (ev_var v4) ez)) (by show 2 ≤ 100000; decide)) (fun _ _ _ h => dp h) rfl (Sm.two (Sm.int le) (Sm.int le)) (by decide) (by decide))) (fun z => nomatch z) fun _ H1 e1 => kk _ _ ⟨p, k, ag, c.ex e1⟩
theorem ti_7 : Ti (LX P w K mg base fa cdv s0 H0) (lawS 7) (A2 K Z a ns) (fun _ => A7 K Z a ns 0) := by
  refine ⟨_, (ps_asg (pe_tup (pa_cons (pe_tup pa_nil) (pa_cons pe_int (pa_cons (pe_lst pa_nil) pa_nil)))) (pg_seq rfl (pgs_cons (pg_name (i := 6) scLaw.nd rfl (.inl rfl)) (pgs_cons (pg_name (i := 5) scLaw.nd rfl (.inl rfl)) (pgs_cons (pg_name (i := 12) scLaw.nd rfl (.inr rfl)) pgs_nil))))), fun i D σ H hA kk => ?_⟩
  obtain ⟨p, k, ag, c⟩ := hA
  refine ⟨by show 0 ≤ sizeLine; decide, fun t ht => ⟨by show 0 ≤ sizeLine; decide, fun l hl => ⟨by show 3 ≤ sizeLine; decide, fun u hu => ?_⟩⟩⟩
  have x1 := Ex.new ht (o := .tup [])
  have x2 := Ex.new hl (o := .lst [])
  have x3 := Ex.new hu (o := .tup [V.ref t, .int 0, .ref l])
  refine ⟨u, _, rfl, .inl (SqT.of upd_same), rfl, _, _, rfl, _, _, rfl, _, _, rfl, rfl, kk _ _ ?_⟩
  have c3 := c.ex ((x1.trans x2).trans x3)
  have e0 : Sh.shp k 0 0 = [] := by unfold Sh.shp; rw [Nat.sub_self, Sh.counts_zero]; rfl
  have b1 := c.box.ex x1
  refine ⟨p, k, ag, 0, 0, [], t, l, [], [], ⟨((c3.set (by omega)).set (by omega)).set (by omega), ⟨sl_ne (sl_ne (sl_eq (by rw [c.len]; decide)) (by decide)) (by decide), ?_⟩, sl_ne (sl_eq (by rw [List.length_set, c.len]; decide)) (by decide), sl_eq (by rw [List.length_set, List.length_set, c.len]; decide), ?_, Nat.le_refl _, Sh.Seen.nil, Nat.le_refl _⟩, Nat.le_refl _⟩
  · rw [e0]
    exact (kp_tup c3.box.ls ((x2.trans x3) _ _ upd_same)).and (fun _ _ => .nil)
  · exact (kp_at (fun z => (b1.ne' hl) (List.mem_singleton.mp z)) (fun ps z => by cases z) (x3 _ _ upd_same)).and (fun _ _ => .nil)
end
end K11
set_option Elab.async false
set_option linter.all false
set_option maxRecDepth 100000
set_option maxHeartbeats 1000000
namespace K11
open PySem PySem.Spec PyProof.Rows L2 GxR Pu Evl
section
variable {K : PySem.W.Frag} {Z : Tx} {a p q D : Addr} {ns : List Int} {k ag f l : Nat} {S : List (Nat × Nat)} {xs ys : List V} {σ : L2.St} {H H' : Hp} {i j : Nat} {u : Option V}
theorem Sn.go (n : Sn K Z a ns p k ag f l S q D xs ys σ H) (g : Go Z [p] H H') (hb : BoxAt H' p) : Sn K Z a ns p k ag f l S q D xs ys σ H' := ⟨n.c.go g hb, n.s.go g, n.v5, n.v12, n.kp.go g, n.fl, n.seen, n.sz⟩
theorem Sn.ex (n : Sn K Z a ns p k ag f l S q D xs ys σ H) (e : Ex H H') : Sn K Z a ns p k ag f l S q D xs ys σ H' := n.go (Go.ex n.c.ok e) (n.c.box.ex e)
theorem Sn.set (n : Sn K Z a ns p k ag f l S q D xs ys σ H) (h : 7 ≤ i ∧ i ≠ 18 ∧ i ≠ 12) : Sn K Z a ns p k ag f l S q D xs ys (σ.set i u) H := ⟨n.c.set (by omega), n.s.set (by omega), sl_ne n.v5 (by omega), sl_ne n.v12 (by omega), n.kp, n.fl, n.seen, n.sz⟩
end
def R8 (K : PySem.W.Frag) (Z : Tx) (a : Addr) (ns : List Int) (N : Nat) (σ : L2.St) (H : Hp) : Prop := ∃ p k ag f l S q D xs ys, Sn K Z a ns p k ag f l S q D xs ys σ H ∧ l ≤ N
def M8 (K : PySem.W.Frag) (Z : Tx) (a : Addr) (ns : List Int) (N : Nat) (σ : L2.St) (H : Hp) : Prop := ∃ p k ag f l S q D xs ys, C K Z a ns p k ag σ H ∧ Shp Z p q xs (Sh.shp k f (l + 1)) σ H ∧ σ[5]? = some (some (.int ((l + 1 : Nat) : Int))) ∧ σ[12]? = some (some (.ref D)) ∧ Kp Z [p] (fun H => H D = some (.lst ys) ∧ PrT H S ys) H ∧ f ≤ l ∧ Sh.Seen k f l S ∧ S.length ≤ 64 * l ∧ l ≤ N ∧ N < 39
section
variable {P : Program} {w : World} {K : PySem.W.Frag} {mg : Str → Option Value} {base : Heap} {a fa : Addr} {ns : List Int} {cdv : Value} {s0 : Shared} {H0 : Hp} {Z : Tx}
variable {fBox fTake fLS fLG fMM Cr T : Addr} {dBox dTake dLS dLG dMM : FuncData}
theorem in_80 (hr : Room 9 (LX P w K mg base fa cdv s0 H0).A) (C1 : Cal P w K mg base "_law_box" ["_law_script", "_law_k"] sBox 1 (spBox K ns) fBox dBox) (hn : ns.length ≤ 100) : Ti (LX P w K mg base fa cdv s0 H0) (inS 8 0) (fun i σ H => R8 K Z a ns (3 * i) σ H ∧ σ[13]? = some (some (.int ((i + 1 : Nat) : Int))) ∧ i < 13) (fun i σ H => R8 K Z a ns (3 * i) σ H ∧ i < 13) := by
  refine ⟨_, (ps_set (i := 1) scLaw.nd rfl (.inl rfl) (pe_call C1.ok (hr.mono (by decide)) (by rfl) C1.ns.mg C1.ns.fn.kp C1.ns.bd .nil pass0 (pa_cons (pv 0) (pa_cons (pv 13) pa_nil)))), fun i D σ H hA kk => ?_⟩
  obtain ⟨⟨p, k, ag, f, l, S, q, Ds, xs, ys, n, hl⟩, h13, hi⟩ := hA
  have c := n.c
  refine ⟨_, c.v0, _, h13, a, i + 1, rfl, c.scr.now c.ok, hn, by omega, fun p' H' hp e hb => kk _ _ ⟨⟨p', k, ag, f, l, S, q, Ds, xs, ys, ⟨⟨by rw [List.length_set]; exact c.len, sl_ne c.v0 (by decide), sl_eq (by rw [c.len]; decide), sl_ne c.v2 (by decide), sl_ne c.v18 (by decide), c.k2, c.k8, c.ag24, c.ok.ex e, hb, c.scr.renew hp e⟩, ⟨sl_ne n.s.sl (by decide), n.s.kp.renew hp e⟩, sl_ne n.v5 (by decide), sl_ne n.v12 (by decide), n.kp.renew hp e, n.fl, n.seen, n.sz⟩, hl⟩, hi⟩⟩
theorem in_810 (hr : Room 9 (LX P w K mg base fa cdv s0 H0).A) (C1 : Cal P w K mg base "lay_shape" ["laid", "some", "keep"] sLayShape 7 (spLay K T) fLS dLS) (hT : T ∈ Z.ts) (np : Z.p ∉ Z.ts) : Ti (LX P w K mg base fa cdv s0 H0) ((bodyOf (inS 8 1)).getD 0 (.Pass ⟨0, 0, 0, 0⟩)) (fun N σ H => N < 39 ∧ R8 K Z a ns N σ H) (M8 K Z a ns) := by
  refine ⟨_, (ps_par (i := 6) (j := 5) rfl scLaw.nd rfl rfl (by decide) rfl rfl (pa_cons (pe_call C1.ok (hr.mono (by decide)) (by rfl) C1.ns.mg C1.ns.fn.kp C1.ns.bd .nil pass0 (pa_cons (pv 5) (pa_cons (pv 6) (pa_cons (pv 18) pa_nil)))) (pa_cons (pe_op op_add (pv 5) pe_int) pa_nil)) (by rfl)), fun i D σ H hA kk => ?_⟩
  obtain ⟨hN, p, k, ag, f, l, S, q, Ds, xs, ys, n, hl⟩ := hA
  have c := n.c
  have hq := n.s.kp.now c.ok
  refine ⟨_, n.v5, _, n.s.sl, _, c.v18, k, f, l, .ref q, rfl, c.k2, c.k8, n.fl, by omega, ShIn.of hq.1 hq.2, c.ok.gs T hT, fun q' xs' H' hq' e h1 h2 => ⟨_, n.v5, (l : Int), 1, rfl, rfl, _, _, rfl, kk _ _ ?_⟩⟩
  have g : Go Z [p] H H' := Go.exT c.ok hT np e fun b hb => ExT.fresh (c.ok.gs T hT) e hb
  have hb : BoxAt H' p := by
    obtain ⟨g0, s0, b1, b2⟩ := c.box
    exact ⟨g0, s0, e.2 _ _ (TabG.ne (c.ok.gs T hT) b1 fun ps z => by cases z) b1, b2⟩
  refine ⟨p, k, ag, f, l, S, q', Ds, xs', ys, ((c.go g hb).set (by omega)).set (by omega), ⟨sl_ne (sl_eq (by rw [c.len]; decide)) (by decide), (kp_tup hb.ls h1).and (kp_pr hb.ls h2)⟩, sl_eq (by rw [List.length_set, c.len]; decide), sl_ne (sl_ne n.v12 (by decide)) (by decide), n.kp.go g, n.fl, n.seen, n.sz, hl, hN⟩
theorem in_811 (hr : Room 9 (LX P w K mg base fa cdv s0 H0).A) : Ti (LX P w K mg base fa cdv s0 H0) ((bodyOf (inS 8 1)).getD 1 (.Pass ⟨0, 0, 0, 0⟩)) (M8 K Z a ns) (fun N => R8 K Z a ns (N + 1)) := by
  have hu5 : (LX P w K mg base fa cdv s0 H0).A.units + 65 < cLine := by have := hr.un; omega
  refine ⟨_, (ps_set (i := 12) scLaw.nd rfl (.inr rfl) (pe_op op_cat (pv 12) (pe_lc (own := [("_law_one", 15)]) (g := gName 15) (te := (tVar 15)) (tt := tTest (tOp (rNotInD K) (tVar 15) (tVar 12))) (by rfl) scLaw.nd (pi_seq (pv 6)) (blkOk_by (own := [("_law_one", 15)]) (N := lawN) (sc := defScope sLaw) (by decide +kernel)) (fun _ _ _ _ _ => (pg_name (i := 15) scLaw.nd rfl (.inl rfl))) (fun _ _ _ _ _ => pts_one (pt_cmpR (op_notInD hu5) (pv 15) (pv 12) rfl)) (fun _ _ _ _ _ => (pv 15))))), fun i D σ H hA kk => ?_⟩
  obtain ⟨p, k, ag, f, l, S, q, Ds, xs, ys, c, s, v5, v12, kp, fl, seen, sz, hl, hN⟩ := hA
  have hq := s.kp.now c.ok
  have hD := kp.now c.ok
  have ll : (Sh.shp k f (l + 1)).length ≤ 64 := Nat.le_trans (Sh.shp_len c.k2) (by omega)
  have hxl : (Sh.shp k f (l + 1)).length = xs.length := Paired.length hq.2
  have hyl : S.length = ys.length := Paired.length hD.2
  have sh2 : SeqAt.shaped (.list (S.map dPair)) = true := (shaped_of (d := .list (S.map dPair)) (pairs_lay S) (by
    show PyData.depthAll (S.map dPair) + 1 ≤ 64
    have := pairs_depth S
    omega)).1
  have sh1 : ∀ p : Nat × Nat, SeqAt.shaped (dPair p) = true := fun p => (shaped_of (d := dPair p) rfl (by simp [dPair, PyData.depth, PyData.depthAll])).1
  have el := el_lcS (K := K) (j := 15) (tl := tVar 6) (te := tVar 15) (tt := tTest (tOp (rNotInD K) (tVar 15) (tVar 12))) (σ := σ) (H := H) (xs := xs) (fun i => !(S.map dPair).any fun z => PyData.eqv z (dPair ((Sh.shp k f (l + 1)).getD i (0, 0)))) (fun i => xs.getD i .non) (Es.var s.sl (.inl (SqT.of hq.1))) (by omega)
    (fun i x H' hx e => by
      obtain ⟨pr, hp, b, rfl, hb⟩ := Paired.at hq.2 hx
      refine et_test (ev_op (ev_var (sl_eq (by rw [c.len]; decide))) (ev_var (sl_ne v12 (by decide))) ?_)
      have eg : (Sh.shp k f (l + 1)).getD i (0, 0) = pr := by rw [List.getD_eq_getElem?_getD, hp]; rfl
      show RV _ _ _ _ (.bl (!(S.map dPair).any fun z => PyData.eqv z (dPair ((Sh.shp k f (l + 1)).getD i (0, 0)))))
      rw [eg]
      exact rv_notInD (fun H2 e2 => .tup (SqT.of ((e.trans e2) _ _ hb)) (.cons (.int _) (.cons (.int _) .nil))) (fun H2 e2 => .lst (SqL.of ((e.trans e2) _ _ hD.1)) (dpPairs (PrT.s (PrT.ex hD.2 (e.trans e2))))) (sh1 pr) sh2)
    (fun i x H' hx e _ => by
      have : xs.getD i .non = x := by rw [List.getD_eq_getElem?_getD, hx]; rfl
      show Ev _ _ _ (xs.getD i .non)
      rw [this]
      exact ev_var (sl_eq (by rw [c.len]; decide)))
  have gl := given_len xs.length (fun i => !(S.map dPair).any fun z => PyData.eqv z (dPair ((Sh.shp k f (l + 1)).getD i (0, 0)))) (fun i => xs.getD i V.non)
  refine s_asgL (el_catV (ev_var v12) hD.1 el (by omega)) fun r H' hr' e h' => kk _ _ ?_
  have c' := c.ex e
  have hpr := paired_at (d := (0, 0)) (e := V.non) hq.2 ((List.range xs.length).filter fun i => !(S.map dPair).any fun z => PyData.eqv z (dPair ((Sh.shp k f (l + 1)).getD i (0, 0)))) (fun j hj => by rw [hxl]; exact List.mem_range.mp (List.mem_filter.mp hj).1)
  refine ⟨p, k, ag, f, l + 1, S ++ _, q, r, xs, ys ++ _, ⟨c'.set (by omega), (s.ex c.ok e).set (by omega), sl_ne v5 (by decide), sl_eq (by rw [c.len]; decide), (kp_at (fun z => (c.box.ne' hr') (List.mem_singleton.mp z)) (fun ps z => by cases z) h').and (kp_pr c'.box.ls (PrT.ex (Paired.app hD.2 hpr) e)), by omega, seen.lay c.k2 c.k8 fl (by omega) fun x hx => ?_, ?_⟩, by omega⟩
  · rcases List.mem_append.mp hx with h | h
    · exact .inl h
    · obtain ⟨j, hj, rfl⟩ := List.mem_map.mp h
      have hj := List.mem_range.mp (List.mem_filter.mp hj).1
      rw [← hxl] at hj
      right
      rw [List.getD_eq_getElem?_getD, List.getElem?_eq_getElem hj]
      exact List.getElem_mem hj
  · rw [List.length_append, List.length_map]
    have := List.length_filter_le (fun i => !(S.map dPair).any fun z => PyData.eqv z (dPair ((Sh.shp k f (l + 1)).getD i (0, 0)))) (List.range xs.length)
    rw [List.length_range] at this
    omega
theorem in_81 (hr : Room 9 (LX P w K mg base fa cdv s0 H0).A) (G : Mg mg) (C1 : Cal P w K mg base "_law_take" ["_law_box_here", "_law_many"] sTake 1 spTake fTake dTake) (hb : Tis (LX P w K mg base fa cdv s0 H0) (bodyOf (inS 8 1)) (fun N σ H => N < 39 ∧ R8 K Z a ns N σ H) (fun N => R8 K Z a ns (N + 1))) :
    Ti (LX P w K mg base fa cdv s0 H0) (inS 8 1) (fun i σ H => R8 K Z a ns (3 * i) σ H ∧ i < 13) (fun i σ H => R8 K Z a ns (3 * i + 3) σ H ∧ i < 13) := by
  obtain ⟨tb, hb1, hb2⟩ := hb
  refine ⟨_, (ps_for PassesOwn.never rfl (pi_range1 (by rfl) G.range (pa_cons (pe_op op_add pe_int (pe_call C1.ok (hr.mono (by decide)) (by rfl) C1.ns.mg C1.ns.fn.kp C1.ns.bd .nil pass0 (pa_cons (pv 1) (pa_cons pe_int pa_nil)))) pa_nil)) (pg_name (i := 14) scLaw.nd rfl (.inl rfl)) hb1), fun i D σ H hA kk => ?_⟩
  obtain ⟨⟨p, k, ag, f, l, S, q, Ds, xs, ys, n, hl⟩, hi⟩ := hA
  have c := n.c
  refine ⟨.ref p, c.v1, p, 3, rfl, by decide, by decide, c.box, fun d H2 hd xb => ⟨1, (d : Int), rfl, rfl, 1 + (d : Int), rfl, by omega, by omega, for_range (lo := 0) (n := (1 + (d : Int)).toNat) (fun m σ' H' => R8 K Z a ns (3 * i + m) σ' H') ?_ (fun m σ' H' hm hP => ?_) fun σ' H' hP => ?_⟩⟩
  · exact ⟨p, k, ag, f, l, S, q, Ds, xs, ys, n.go (Go.box c.ok c.box xb) xb.1, hl⟩
  · refine hb2 (3 * i + m) _ _ _ ⟨by omega, ?_⟩ fun σ'' H'' h => h
    obtain ⟨p, k, ag, f, l, S, q, Ds, xs, ys, n, hl⟩ := hP
    exact ⟨p, k, ag, f, l, S, q, Ds, xs, ys, n.set (by omega), hl⟩
  · obtain ⟨p, k, ag, f, l, S, q, Ds, xs, ys, n, hl⟩ := hP
    exact kk _ _ ⟨⟨p, k, ag, f, l, S, q, Ds, xs, ys, n, by omega⟩, hi⟩
theorem in_82 (hr : Room 9 (LX P w K mg base fa cdv s0 H0).A) (C1 : Cal P w K mg base "_law_take" ["_law_box_here", "_law_many"] sTake 1 spTake fTake dTake) (C2 : Cal P w K mg base "let_go_shape" ["some", "below"] sLetGo 4 (spSh (pGo K)) fLG dLG) :
    Ti (LX P w K mg base fa cdv s0 H0) (inS 8 2) (fun i σ H => R8 K Z a ns (3 * i + 3) σ H ∧ i < 13) (fun i σ H => R8 K Z a ns (3 * i + 3) σ H ∧ i < 13) := by
  refine ⟨_, (ps_if (pt_cmpR op_eq (pe_call C1.ok (hr.mono (by decide)) (by rfl) C1.ns.mg C1.ns.fn.kp C1.ns.bd .nil pass0 (pa_cons (pv 1) (pa_cons pe_int pa_nil))) pe_int (nomark _)) (pss_one (ps_set (i := 6) scLaw.nd rfl (.inl rfl) (pe_call C2.ok (hr.mono (by decide)) (by rfl) C2.ns.mg C2.ns.fn.kp C2.ns.bd .nil pass0 (pa_cons (pv 6) (pa_cons (pe_call C1.ok (hr.mono (by decide)) (by rfl) C1.ns.mg C1.ns.fn.kp C1.ns.bd .nil pass0 (pa_cons (pv 1) (pa_cons (pe_op op_add (pv 5) pe_int) pa_nil))) pa_nil))))) pss_nil), fun i D σ H hA kk => ?_⟩
  obtain ⟨⟨p, k, ag, f, l, S, q, Ds, xs, ys, n, hl⟩, hi⟩ := hA
  have c := n.c
  refine ⟨.ref p, c.v1, p, 4, rfl, by decide, by decide, c.box, fun d H2 hd xb => ⟨rfl, _, rfl, ite2 (fun _ => ?_) fun _ => ?_⟩⟩
  · have n2 := n.go (Go.box c.ok c.box xb) xb.1
    have c2 := n2.c
    refine ⟨_, n2.s.sl, .ref p, c2.v1, _, n2.v5, (l : Int), 1, rfl, rfl, p, l + 1, rfl, by omega, by omega, c2.box, fun b H3 hb xb3 => ?_⟩
    have n3 := n2.go (Go.box c2.ok c2.box xb3) xb3.1
    have c3 := n3.c
    have hq := n3.s.kp.now c3.ok
    refine ⟨Sh.gone b (Sh.shp k f l), ⟨Sh.shp k f l, b, .ref q, rfl, ShIn.of hq.1 hq.2, Nat.le_trans (Sh.shp_len c.k2) (by omega), rfl⟩, fun q' xs' H' hq' e h1 h2 => kk _ _ ⟨?_, hi⟩⟩
    obtain ⟨g1, g2⟩ := Sh.gone_shp (b := b) c.k2 n.fl
    have c4 := c3.ex e
    rw [g2] at h2
    exact ⟨p, k, ag, _, l, S, q', Ds, xs', ys, ⟨c4.set (by omega), ⟨sl_eq (by rw [c.len]; decide), (kp_tup c4.box.ls h1).and (kp_pr c4.box.ls h2)⟩, sl_ne n.v5 (by decide), sl_ne n.v12 (by decide), n3.kp.go (Go.ex c3.ok e), g1, n.seen.go c.k2 n.fl, n.sz⟩, hl⟩
  · exact kk _ _ ⟨⟨p, k, ag, f, l, S, q, Ds, xs, ys, n.go (Go.box c.ok c.box xb) xb.1, hl⟩, hi⟩
theorem in_83 (hr : Room 9 (LX P w K mg base fa cdv s0 H0).A) (C1 : CalX P w K mg base "most_many" ["keep", "age"] sMostMany 4 (spMost Z Cr Sh.mm) fMM dMM) : Ti (LX P w K mg base fa cdv s0 H0) (inS 8 3) (fun i σ H => R8 K Z a ns (3 * i + 3) σ H ∧ i < 13) (fun i => A7 K Z a ns (i + 1)) := by
  refine ⟨_, (ps_for PassesOwn.never rfl (pi_seq (pv 6)) (pg_seq rfl (pgs_cons (pg_name (i := 7) scLaw.nd rfl (.inl rfl)) (pgs_cons (pg_name (i := 8) scLaw.nd rfl (.inl rfl)) pgs_nil)))
    (pss_one (ps_if (pt_cmpR op_gt (pv 8) (pe_call C1.ok (hr.mono (by decide)) (by rfl) C1.ns.mg C1.ns.fn.kp C1.ns.bd .nil passL (pa_cons (pv 18) (pa_cons (pe_op op_sub (pe_op op_sub (pv 5) (pv 7)) (pv 8)) pa_nil))) (nomark _)) (pss_one (ps_ret pe_bl)) pss_nil))), fun i D σ H hA kk => ?_⟩
  obtain ⟨⟨p, k, ag, f, l, S, q, Ds, xs, ys, n, hl⟩, hi⟩ := hA
  have hq := n.s.kp.now n.c.ok
  refine ⟨.ref q, n.s.sl, q, xs, rfl, .inl (SqT.of hq.1), fun J Gd wk hG => for_it wk (fun m σ' H' => Ex H H' ∧ Sn K Z a ns p k ag f l S q Ds xs ys σ' H') ⟨Ex.refl _, n⟩ (fun m σ' H' _ r => hG _ r.1) ?_ ?_⟩
  · intro m x σ' Ha Hb hm hPv hy
    obtain ⟨ex, n'⟩ := hPv
    obtain ⟨rfl, hx⟩ := hy
    have c := n'.c
    obtain ⟨pr, hp, b, rfl, hb⟩ := Paired.at (n'.s.kp.now c.ok).2 hx
    have pm := List.mem_of_getElem? hp
    have bd := Sh.shp_mem c.k2 n.fl pm
    have lb : l - pr.1 - pr.2 ≤ 1000 := by omega
    have v7 : ((σ'.set 7 (some (.int (pr.1 : Nat)))).set 8 (some (.int (pr.2 : Nat))))[7]? = _ := sl_ne (sl_eq (by rw [c.len]; decide)) (by decide)
    have v8 : ((σ'.set 7 (some (.int (pr.1 : Nat)))).set 8 (some (.int (pr.2 : Nat))))[8]? = _ := sl_eq (by rw [List.length_set, c.len]; decide)
    have n8 : Sn K Z a ns p k ag f l S q Ds xs ys ((σ'.set 7 (some (.int (pr.1 : Nat)))).set 8 (some (.int (pr.2 : Nat)))) _ := (n'.set (by omega)).set (by omega)
    refine ⟨b, _, rfl, .inl (SqT.of hb), rfl, _, _, rfl, _, _, rfl, rfl, ?_⟩
    have eq : ((l : Int) - (pr.1 : Int) - (pr.2 : Int)) = ((l - pr.1 - pr.2 : Nat) : Int) := by omega
    have le := Sh.aged c.k2 c.k8 n.fl (by omega) pm
    refine s_if (et_is (et_test (ev_op (ev_var v8) (ev_call (ec (ev_var n8.c.v18) (ec (ev_is (ev_op (ev_op (ev_var n8.v5) (ev_var v7) rv_I0) (ev_var v8) rv_I0) (by rw [eq])) ez)) (spMost.use c.k2 c.k8 lb c.ok)) rv_I0)) (b := false) (decide_eq_false (by omega))) (fun z => nomatch z) fun _ H1 e1 => ⟨ex.trans e1, n8.ex e1⟩
  · intro σ' H' hPv
    exact kk _ _ ⟨p, k, ag, f, l, S, q, Ds, xs, ys, hPv.2, by omega⟩
theorem ti_8 (G : Mg mg) (hb : Tis (LX P w K mg base fa cdv s0 H0) (bodyOf (lawS 8)) (fun i σ H => R8 K Z a ns (3 * i) σ H ∧ σ[13]? = some (some (.int ((i + 1 : Nat) : Int))) ∧ i < 13) (fun i => A7 K Z a ns (i + 1))) : Ti (LX P w K mg base fa cdv s0 H0) (lawS 8) (fun _ => A7 K Z a ns 0) (fun _ => A7 K Z a ns 13) := by
  obtain ⟨tb, hb1, hb2⟩ := hb
  refine ⟨_, (ps_for PassesOwn.never rfl (pi_range2 (by rfl) G.range (pa_cons pe_int (pa_cons pe_int pa_nil))) (pg_name (i := 13) scLaw.nd rfl (.inl rfl)) hb1), fun i D σ H hA kk => ?_⟩
  refine s_forR2 (lo := 1) (n := 14) (ec ev_c (ec ev_c ez)) ⟨by decide, by decide, by decide, by decide⟩ (fun m σ' H' => A7 K Z a ns m σ' H') (fun H1 e => ?_) (fun m σ' H' hm hP => ?_) fun σ' H' hP => kk _ _ hP
  · obtain ⟨p, k, ag, f, l, S, q, Ds, xs, ys, n, hl⟩ := hA
    exact ⟨p, k, ag, f, l, S, q, Ds, xs, ys, n.ex e, hl⟩
  · obtain ⟨p, k, ag, f, l, S, q, Ds, xs, ys, n, hl⟩ := hP
    refine hb2 m _ _ _ ⟨⟨p, k, ag, f, l, S, q, Ds, xs, ys, n.set (by omega), hl⟩, ?_, by omega⟩ fun σ'' H'' h => h
    rw [show (1 : Int) + (m : Int) = ((m + 1 : Nat) : Int) by omega]
    exact sl_eq (by rw [n.c.len]; decide)
end
end K11
set_option Elab.async false
set_option linter.all false
set_option maxRecDepth 100000
set_option maxHeartbeats 1000000
namespace K11
open PySem PySem.Spec PyProof.Rows L2 GxR Pu Evl
/-- a flat value that a test refuses, and how it is shown -/
def Odd (B : V → Bool) (u : V) (s : Str) : Prop := flatV u = true ∧ B u = false ∧ PyData.strOk s = true ∧ shownS u = some s ∧ okS u = true
theorem Odd.shown {B : V → Bool} {u : V} {s : Str} {K : PySem.W.Frag} {H : Hp} (h : Odd B u s) : Shown K H u s := .inl ⟨h.2.2.2.1, h.2.2.2.2⟩
def A10 (K : PySem.W.Frag) (Z : Tx) (a : Addr) (ns : List Int) (_ : Nat) (σ : L2.St) (H : Hp) : Prop := ∃ p k ag u s, C K Z a ns p k ag σ H ∧ σ[17]? = some (some u) ∧ Odd keepB u s
/-- in the turn of a def that is asked -/
def Q0 (K : PySem.W.Frag) (Z : Tx) (a : Addr) (ns : List Int) (f1 f2 : Addr) (t : Addr) (_ : Nat) (σ : L2.St) (H : Hp) : Prop := ∃ p k ag u s x, C K Z a ns p k ag σ H ∧ σ[17]? = some (some u) ∧ Odd keepB u s ∧ σ[16]? = some (some (.ref x)) ∧ (x = f1 ∨ x = f2) ∧ H t = some (.tup [.ref f1, .ref f2])
def Q1 (K : PySem.W.Frag) (Z : Tx) (a : Addr) (ns : List Int) (f1 f2 : Addr) (t : Addr) (_ : Nat) (σ : L2.St) (H : Hp) : Prop := ∃ p k ag u s x v r, C K Z a ns p k ag σ H ∧ σ[17]? = some (some u) ∧ Odd keepB u s ∧ σ[16]? = some (some (.ref x)) ∧ (x = f1 ∨ x = f2) ∧ H t = some (.tup [.ref f1, .ref f2]) ∧ σ[19]? = some (some v) ∧ Odd isNum v r
section
variable {P : Program} {w : World} {K : PySem.W.Frag} {mg : Str → Option Value} {base : Heap} {a fa cl Cr CF fI t : Addr} {ns : List Int} {cdv : Value} {s0 : Shared} {H0 : Hp} {Z : Tx}
variable {fCr fPick fMM fMS fRf : Addr} {dCr dPick dMM dMS dRf : FuncData}
theorem ti_9 (hr : Room 9 (LX P w K mg base fa cdv s0 H0).A) (C1 : Cal P w K mg base "_law_crosses" ["_law_one", "_law_other"] sLCross 1 (spCross K) fCr dCr) : Ti (LX P w K mg base fa cdv s0 H0) (lawS 9) (fun _ => A7 K Z a ns 13) (A2 K Z a ns) := by
  have hu : (LX P w K mg base fa cdv s0 H0).A.units + 64 < cLine := hr.units
  refine ⟨_, (ps_for PassesOwn.never rfl (pi_seq (pv 12)) (pg_name (i := 15) scLaw.nd rfl (.inr rfl))
    (pss_one (ps_if (pt_cmpR (op_neD hu) (pe_lc (own := [("_law_other", 20)]) (g := gName 20) (te := (tVar 20)) (tt := tB (tCall (spCross K) [] E0 (tCons (tVar 15) (tCons (tVar 20) tNil)))) (by rfl) scLaw.nd (pi_seq (pv 12)) (blkOk_by (own := [("_law_other", 20)]) (N := lawN) (sc := defScope sLaw) (by decide +kernel)) (fun _ _ _ _ _ => (pg_name (i := 20) scLaw.nd rfl (.inl rfl))) (fun _ _ _ _ _ => pts_one (pt_val (pe_call C1.ok (hr.mono (by decide)) (by rfl) C1.ns.mg C1.ns.fn.kp C1.ns.bd .nil pass0 (pa_cons (pv 15) (pa_cons (pv 20) pa_nil))))) (fun _ _ _ _ _ => (pv 20))) (pe_lst pa_nil) (nomark _)) (pss_one (ps_ret pe_bl)) pss_nil))), fun i D σ H hA kk => ?_⟩
  obtain ⟨p, k, ag, f, l, S, q, Ds, xs, ys, n, hl⟩ := hA
  have hD := n.kp.now n.c.ok
  have hyl : S.length = ys.length := Paired.length hD.2
  have sz := n.sz
  refine ⟨.ref Ds, n.v12, Ds, ys, rfl, .inr (SqL.of hD.1), fun J Gd wk hG => for_it wk (fun m σ' H' => Ex H H' ∧ Sn K Z a ns p k ag f l S q Ds xs ys σ' H') ⟨Ex.refl _, n⟩ (fun m σ' H' _ r => hG _ r.1) ?_ ?_⟩
  · intro m x σ' Ha Hb hm hPv hy
    obtain ⟨ex, n'⟩ := hPv
    obtain ⟨rfl, hx⟩ := hy
    have hD' := n'.kp.now n'.c.ok
    obtain ⟨p1, hp1, hb1⟩ := Paired.at (pr_e (K := K) hD'.2) hx
    have m1 := List.mem_of_getElem? hp1
    have n8 := n'.set (i := 15) (u := some x) (by omega)
    have h15 : (σ'.set 15 (some x))[15]? = some (some x) := sl_eq (by rw [n'.c.len]; decide)
    have el := el_lcS (K := K) (j := 20) (tl := tVar 12) (te := tVar 20) (tt := tB (tCall (spCross K) [] E0 (tCons (tVar 15) (tCons (tVar 20) tNil)))) (σ := σ'.set 15 (some x)) (H := Hb) (xs := ys) (fun _ => false) (fun _ => .non) (Es.var n8.v12 (.inr (SqL.of hD'.1))) (by omega)
      (fun i y H' hy e => by
        obtain ⟨p2, hp2, hb2⟩ := Paired.at (pr_e (K := K) hD'.2) hy
        have m2 := List.mem_of_getElem? hp2
        have cr := n'.seen.cross m1 m2
        refine et_B (ev_is (v := .bl (Sh.crossB p1 p2)) (ev_call (ec (ev_var (sl_ne h15 (by decide))) (ec (ev_var (sl_eq (by rw [n8.c.len]; decide))) ez)) fun H1 e1 Q q E => ⟨p1, p2, x, y, rfl, (hb1.ex e).ex e1, (hb2.ex e).ex e1, fun H' e' => q H' e'⟩) (by rw [cr]))) (fun i y H' hy e z => nomatch z)
    have e0 : given ys.length (fun _ => false) (fun _ => V.non) = [] := by unfold given; simp
    rw [e0] at el
    refine s_if (et_test (ev_opLL el (el_lst ez (by decide)) fun r1 r2 H1 h1 h2 e H2 e2 Q q => ⟨.list [], .list [], .lst (SqL.of (e2 _ _ h1)) .nil, .lst (SqL.of (e2 _ _ h2)) .nil, rfl, rfl, q H2 (Ex.refl _)⟩)) (fun z => nomatch z) fun _ H1 e1 => ⟨ex.trans e1, n8.ex e1⟩
  · intro σ' H' hPv
    exact kk _ _ ⟨p, k, ag, hPv.2.c⟩
theorem ti_10 (hr : Room 9 (LX P w K mg base fa cdv s0 H0).A) (C1 : Cal P w K mg base "_law_pick" ["_law_box_here", "_law_some"] sPick 2 spPick fPick dPick) : Ti (LX P w K mg base fa cdv s0 H0) (lawS 10) (A2 K Z a ns) (A10 K Z a ns) := by
  refine ⟨_, (ps_set (i := 17) scLaw.nd rfl (.inr rfl) (pe_call C1.ok (hr.mono (by decide)) (by rfl) C1.ns.mg C1.ns.fn.kp C1.ns.bd .nil pass0 (pa_cons (pv 1) (pa_cons (pe_lst (pa_cons pe_int (pa_cons pe_int (pa_cons pe_int (pa_cons pe_non (pa_cons pe_bl (pa_cons pe_str pa_nil))))))) pa_nil)))), fun i D σ H hA kk => ?_⟩
  obtain ⟨p, k, ag, c⟩ := hA
  refine ⟨.ref p, c.v1, by show 6 ≤ sizeLine; decide, fun l hl => ?_⟩
  have x1 := Ex.new hl (o := .lst [V.int 1, .int 9, .int 0, .non, .bl true, .str "2"])
  have c1 := c.ex x1
  refine ⟨p, l, _, rfl, c1.box, upd_same, c.box.ne' hl, by show 1 ≤ 6; decide, by show 6 ≤ 1000; decide, fun u H' hu xb => kk _ _ ?_⟩
  obtain ⟨s, hs⟩ : ∃ s, Odd keepB u s := by
    simp only [List.mem_cons, List.not_mem_nil, or_false] at hu
    rcases hu with rfl | rfl | rfl | rfl | rfl | rfl
    · exact ⟨_, rfl, rfl, ok_str _, rfl, by decide⟩
    · exact ⟨_, rfl, rfl, ok_str _, rfl, by decide⟩
    · exact ⟨_, rfl, rfl, ok_str _, rfl, by decide⟩
    · exact ⟨_, rfl, rfl, ok_str _, rfl, rfl⟩
    · exact ⟨_, rfl, rfl, ok_str _, rfl, rfl⟩
    · exact ⟨reprText "2", rfl, rfl, by decide +kernel, rfl, by decide +kernel⟩
  exact ⟨p, k, ag, u, s, (c1.go (Go.box c1.ok c1.box xb) xb.1).set (by omega), sl_eq (by rw [c.len]; decide), hs⟩
theorem in_110 (hr : Room 10 (LX P w K mg base fa (.ref cl) s0 H0).A) (G : Mg mg) (C1 : CalX P w K mg base "most_many" ["keep", "age"] sMostMany 4 (spMost Z Cr Sh.mm) fMM dMM) (C2 : CalX P w K mg base "most_spans" ["keep", "rows"] sMostSpans 4 (spMost Z Cr Sh.ms) fMS dMS) (FR : Fun K "_law_refused" "_law_refused" sLRefused fRf dRf) (mR : mg "_law_refused" = some (.ref fRf)) (bR : Binds K dRf ["_law_ask"] [])
    (RC : RefC K Cr fI) (mC : mg "Refused" = some (.ref Cr)) (mF : mg "FarError" = some (.ref CF)) (kit : PySem.W.kitOne K (.ref Cr) (.ref CF) = some true) (exm : PySem.W.exmOne K (.ref Cr) (.ref Cr) = some true)
    (TL : LamX.TabB base mg cl Z.p) (np : Z.p ∉ Z.ts) (hq : (LX P w K mg base fa (.ref cl) s0 H0).env.qual ++ "<lambda>" = Z.q) : Ti (LX P w K mg base fa (.ref cl) s0 H0) (inS 11 0) (Q0 K Z a ns fMM fMS t) (Q0 K Z a ns fMM fMS t) := by
  have hu : (LX P w K mg base fa (.ref cl) s0 H0).A.units + 64 < cLine := (hr.mono (show 9 ≤ 10 by decide)).units
  have hun : (LX P w K mg base fa (.ref cl) s0 H0).A.units + 200 < cLine := by have := hr.un; omega
  have hg : (LX P w K mg base fa (.ref cl) s0 H0).A.guards = some [] := rfl
  refine ⟨_, (ps_if (pt_cmpR (op_neD hu) (pe_lm (k := 4) (t := fun E σ H Q => tCallL 16 fMM (spMost Z Cr Sh.mm) [] E (tCons (tVar 17) (tCons (tC .non) tNil)) σ H Q ∨ tCallL 16 fMS (spMost Z Cr Sh.ms) [] E (tCons (tVar 17) (tCons (tC .non) tNil)) σ H Q) FR (by rfl) mR bR scRefused rfl (.inl rfl) (fun cdv => ok_refused RC G rfl hun mC mF kit exm) TL rfl hq (hr.mono (by decide)) (LamX.lamS_by (by (show LamX.lamSB (defScope sLaw) _ = true); decide +kernel)) (by rfl) (fun _ _ _ _ _ => by rfl) (fun A outer s H E f c' hr' => pe_both (pe_callL (i := 16) C1.ok hr' (by rfl) (.inr (.inr rfl)) C1.ns.fn.kp C1.ns.bd .nil (lam_pass (X := LX P w K mg base fa (.ref cl) s0 H0)) (pa_cons (pv 17) (pa_cons pe_non pa_nil))) (pe_callL (i := 16) C2.ok hr' (by rfl) (.inr (.inr rfl)) C2.ns.fn.kp C2.ns.bd .nil (lam_pass (X := LX P w K mg base fa (.ref cl) s0 H0)) (pa_cons (pv 17) (pa_cons pe_non pa_nil))))) (pe_tup (pa_cons pe_str (pa_cons (pe_callB (cr_reprS hu hg) (by rfl) G.repr boot_repr (pa_cons (pv 17) pa_nil)) (pa_cons pe_bl pa_nil)))) (nomark _)) (pss_one (ps_ret pe_bl)) pss_nil), fun i D σ H hA kk => ?_⟩
  obtain ⟨p, k, ag, u, s, x, c, h17, od, h16, hx, ht⟩ := hA
  refine ⟨c.ok.lm, fun H1 ex t1 => ?_⟩
  have g0 : Go Z [] H H1 := Go.lam c.ok np ex t1
  have h16a : x = fMM → σ[16]? = some (some (.ref fMM)) := fun z => z ▸ h16
  have h16b : x = fMS → σ[16]? = some (some (.ref fMS)) := fun z => z ▸ h16
  refine (fun (fin : ∀ d H', Go Z [] H1 H' → H' d = none → _) => hx.elim (fun z => .inl ⟨h16a z, u, h17, u, .non, rfl, g0.ok, od.1, .inl ⟨od.2.1, fin⟩⟩) (fun z => .inr ⟨h16b z, u, h17, u, .non, rfl, g0.ok, od.1, .inl ⟨od.2.1, fin⟩⟩)) (fun d H' g hd => ?_)
  have x1 := Ex.new hd (o := .xd [("at", u)])
  have g1 : Go Z [] H (upd H' d (.xd [("at", u)])) := (g0.trans g).then x1
  refine ⟨d, u, s, rfl, rfl, upd_same, od.shown, fun t1 ht1 => ?_⟩
  have x2 := Ex.new ht1 (o := .tup [V.str "refused", .str s, .bl true])
  have g2 := g1.then x2
  refine ⟨u, h17, u, s, rfl, od.shown, by show 3 ≤ sizeLine; decide, fun t2 ht2 => ?_⟩
  have x3 := Ex.new ht2 (o := .tup [V.str "refused", .str s, .bl true])
  have g3 := g2.then x3
  have so := od.2.2.1
  have dp : ∀ {H9 : Hp} {b : Addr}, H9 b = some (.tup [V.str "refused", .str s, .bl true]) → Dp K H9 (.ref b) (dRef s) := fun h => .tup (SqT.of h) (.cons (.str _) (.cons (.str _) (.cons (.bl _) .nil)))
  refine ⟨dRef s, dRef s, dp (x3 _ _ upd_same), dp upd_same, dRef_shaped so, dRef_shaped so, false, by rw [dRef_eqv so]; rfl, ite2 (fun z => nomatch z) fun _ => kk _ _ ?_⟩
  exact ⟨p, k, ag, u, s, x, c.go0 g3, h17, od, h16, hx, g3.kp _ _ List.not_mem_nil (fun ps z => by cases z) ht⟩
theorem in_111 (hr : Room 9 (LX P w K mg base fa cdv s0 H0).A) (C1 : Cal P w K mg base "_law_pick" ["_law_box_here", "_law_some"] sPick 2 spPick fPick dPick) : Ti (LX P w K mg base fa cdv s0 H0) (inS 11 1) (Q0 K Z a ns fMM fMS t) (Q1 K Z a ns fMM fMS t) := by
  refine ⟨_, (ps_set (i := 19) scLaw.nd rfl (.inr rfl) (pe_call C1.ok (hr.mono (by decide)) (by rfl) C1.ns.mg C1.ns.fn.kp C1.ns.bd .nil pass0 (pa_cons (pv 1) (pa_cons (pe_lst (pa_cons pe_non (pa_cons (pe_op op_sub pe_int pe_int) (pa_cons pe_bl (pa_cons pe_str pa_nil))))) pa_nil)))), fun i D σ H hA kk => ?_⟩
  obtain ⟨p, k, ag, u, s, x, c, h17, od, h16, hx, ht⟩ := hA
  refine ⟨.ref p, c.v1, 0, 1, rfl, rfl, by show 4 ≤ sizeLine; decide, fun l hl => ?_⟩
  have x1 := Ex.new hl (o := .lst [V.non, .int (0 - 1), .bl true, .str "0"])
  have c1 := c.ex x1
  refine ⟨p, l, _, rfl, c1.box, upd_same, c.box.ne' hl, by show 1 ≤ 4; decide, by show 4 ≤ 1000; decide, fun v H' hv xb => kk _ _ ?_⟩
  obtain ⟨r, hr⟩ : ∃ r, Odd isNum v r := by
    simp only [List.mem_cons, List.not_mem_nil, or_false] at hv
    rcases hv with rfl | rfl | rfl | rfl
    · exact ⟨_, rfl, rfl, ok_str _, rfl, rfl⟩
    · exact ⟨_, rfl, rfl, ok_str _, rfl, by decide⟩
    · exact ⟨_, rfl, rfl, ok_str _, rfl, rfl⟩
    · exact ⟨reprText "0", rfl, rfl, by decide +kernel, rfl, by decide +kernel⟩
  have g := Go.box c1.ok c1.box xb
  exact ⟨p, k, ag, u, s, x, v, r, (c1.go g xb.1).set (by omega), sl_ne h17 (by decide), od, sl_ne h16 (by decide), hx, xb.2 _ _ (fun z => by obtain ⟨gg, ss, b1, _⟩ := c.box; rw [z, b1] at ht; cases ht) (x1 _ _ ht), sl_eq (by rw [c.len]; decide), hr⟩
theorem in_112 (hr : Room 10 (LX P w K mg base fa (.ref cl) s0 H0).A) (G : Mg mg) (C1 : CalX P w K mg base "most_many" ["keep", "age"] sMostMany 4 (spMost Z Cr Sh.mm) fMM dMM) (C2 : CalX P w K mg base "most_spans" ["keep", "rows"] sMostSpans 4 (spMost Z Cr Sh.ms) fMS dMS) (FR : Fun K "_law_refused" "_law_refused" sLRefused fRf dRf) (mR : mg "_law_refused" = some (.ref fRf)) (bR : Binds K dRf ["_law_ask"] [])
    (RC : RefC K Cr fI) (mC : mg "Refused" = some (.ref Cr)) (mF : mg "FarError" = some (.ref CF)) (kit : PySem.W.kitOne K (.ref Cr) (.ref CF) = some true) (exm : PySem.W.exmOne K (.ref Cr) (.ref Cr) = some true)
    (TL : LamX.TabB base mg cl Z.p) (np : Z.p ∉ Z.ts) (hq : (LX P w K mg base fa (.ref cl) s0 H0).env.qual ++ "<lambda>" = Z.q) : Ti (LX P w K mg base fa (.ref cl) s0 H0) (inS 11 2) (Q1 K Z a ns fMM fMS t) (Q0 K Z a ns fMM fMS t) := by
  have hu : (LX P w K mg base fa (.ref cl) s0 H0).A.units + 64 < cLine := (hr.mono (show 9 ≤ 10 by decide)).units
  have hun : (LX P w K mg base fa (.ref cl) s0 H0).A.units + 200 < cLine := by have := hr.un; omega
  have hg : (LX P w K mg base fa (.ref cl) s0 H0).A.guards = some [] := rfl
  refine ⟨_, (ps_if (pt_cmpR (op_neD hu) (pe_lm (k := 4) (t := fun E σ H Q => tCallL 16 fMM (spMost Z Cr Sh.mm) [] E (tCons (tVar 18) (tCons (tVar 19) tNil)) σ H Q ∨ tCallL 16 fMS (spMost Z Cr Sh.ms) [] E (tCons (tVar 18) (tCons (tVar 19) tNil)) σ H Q) FR (by rfl) mR bR scRefused rfl (.inl rfl) (fun cdv => ok_refused RC G rfl hun mC mF kit exm) TL rfl hq (hr.mono (by decide)) (LamX.lamS_by (by (show LamX.lamSB (defScope sLaw) _ = true); decide +kernel)) (by rfl) (fun _ _ _ _ _ => by rfl) (fun A outer s H E f c' hr' => pe_both (pe_callL (i := 16) C1.ok hr' (by rfl) (.inr (.inr rfl)) C1.ns.fn.kp C1.ns.bd .nil (lam_pass (X := LX P w K mg base fa (.ref cl) s0 H0)) (pa_cons (pv 18) (pa_cons (pv 19) pa_nil))) (pe_callL (i := 16) C2.ok hr' (by rfl) (.inr (.inr rfl)) C2.ns.fn.kp C2.ns.bd .nil (lam_pass (X := LX P w K mg base fa (.ref cl) s0 H0)) (pa_cons (pv 18) (pa_cons (pv 19) pa_nil))))) (pe_tup (pa_cons pe_str (pa_cons (pe_callB (cr_reprS hu hg) (by rfl) G.repr boot_repr (pa_cons (pv 19) pa_nil)) (pa_cons pe_bl pa_nil)))) (nomark _)) (pss_one (ps_ret pe_bl)) pss_nil), fun i D σ H hA kk => ?_⟩
  obtain ⟨p, k, ag, u, s, x, v, r, c, h17, od, h16, hx, ht, h19, ov⟩ := hA
  refine ⟨c.ok.lm, fun H1 ex t1 => ?_⟩
  have g0 : Go Z [] H H1 := Go.lam c.ok np ex t1
  have h16a : x = fMM → σ[16]? = some (some (.ref fMM)) := fun z => z ▸ h16
  have h16b : x = fMS → σ[16]? = some (some (.ref fMS)) := fun z => z ▸ h16
  refine (fun (fin : ∀ d H', Go Z [] H1 H' → H' d = none → _) => hx.elim (fun z => .inl ⟨h16a z, _, c.v18, v, h19, .int (k : Int), v, rfl, g0.ok, rfl, .inr ⟨k, rfl, c.k2, c.k8, ov.1, .inl ⟨ov.2.1, fin⟩⟩⟩) (fun z => .inr ⟨h16b z, _, c.v18, v, h19, .int (k : Int), v, rfl, g0.ok, rfl, .inr ⟨k, rfl, c.k2, c.k8, ov.1, .inl ⟨ov.2.1, fin⟩⟩⟩)) (fun d H' g hd => ?_)
  have x1 := Ex.new hd (o := .xd [("at", v)])
  have g1 : Go Z [] H (upd H' d (.xd [("at", v)])) := (g0.trans g).then x1
  refine ⟨d, v, r, rfl, rfl, upd_same, ov.shown, fun t1 ht1 => ?_⟩
  have x2 := Ex.new ht1 (o := .tup [V.str "refused", .str r, .bl true])
  have g2 := g1.then x2
  refine ⟨v, h19, v, r, rfl, ov.shown, by show 3 ≤ sizeLine; decide, fun t2 ht2 => ?_⟩
  have x3 := Ex.new ht2 (o := .tup [V.str "refused", .str r, .bl true])
  have g3 := g2.then x3
  have so := ov.2.2.1
  have dp : ∀ {H9 : Hp} {b : Addr}, H9 b = some (.tup [V.str "refused", .str r, .bl true]) → Dp K H9 (.ref b) (dRef r) := fun h => .tup (SqT.of h) (.cons (.str _) (.cons (.str _) (.cons (.bl _) .nil)))
  refine ⟨dRef r, dRef r, dp (x3 _ _ upd_same), dp upd_same, dRef_shaped so, dRef_shaped so, false, by rw [dRef_eqv so]; rfl, ite2 (fun z => nomatch z) fun _ => kk _ _ ?_⟩
  exact ⟨p, k, ag, u, s, x, c.go0 g3, h17, od, h16, hx, g3.kp _ _ List.not_mem_nil (fun ps z => by cases z) ht⟩
theorem ti_11 (m1 : mg "most_many" = some (.ref fMM)) (m2 : mg "most_spans" = some (.ref fMS)) (hb : ∀ t, Tis (LX P w K mg base fa cdv s0 H0) (bodyOf (lawS 11)) (Q0 K Z a ns fMM fMS t) (Q0 K Z a ns fMM fMS t)) : Ti (LX P w K mg base fa cdv s0 H0) (lawS 11) (A10 K Z a ns) (A2 K Z a ns) := by
  obtain ⟨tb, hb1, hb2⟩ := tis_any hb
  refine ⟨_, (ps_for PassesOwn.never rfl (pi_tup (pe_tup (pa_cons (pe_glob (v := .ref fMM) (by rfl) m1 rfl) (pa_cons (pe_glob (v := .ref fMS) (by rfl) m2 rfl) pa_nil)))) (pg_name (i := 16) scLaw.nd rfl (.inr rfl)) hb1), fun i D σ H hA kk => ?_⟩
  obtain ⟨p, k, ag, u, s, c, h17, od⟩ := hA
  refine ⟨by show 2 ≤ sizeLine; decide, fun t ht => ⟨t, rfl, ⟨_, SqT.of upd_same⟩, for_tup (xs := [.ref fMM, .ref fMS]) (fun m σ' H' => ∃ p k ag u s, C K Z a ns p k ag σ' H' ∧ σ'[17]? = some (some u) ∧ Odd keepB u s ∧ H' t = some (.tup [.ref fMM, .ref fMS])) ?_ ?_ ?_ ?_⟩⟩
  · exact ⟨p, k, ag, u, s, c.ex (Ex.new ht), h17, od, upd_same⟩
  · intro m σ' H' _ hP
    obtain ⟨_, _, _, _, _, _, _, _, h⟩ := hP
    exact SqT.of h
  · intro m x σ' H' hx hP
    obtain ⟨p, k, ag, u, s, c, h17, od, h⟩ := hP
    have hxx : ∃ y, x = .ref y ∧ (y = fMM ∨ y = fMS) := by
      match m, hx with
      | 0, hx => cases hx; exact ⟨_, rfl, .inl rfl⟩
      | 1, hx => cases hx; exact ⟨_, rfl, .inr rfl⟩
      | m + 2, hx => cases hx
    obtain ⟨y, rfl, hy⟩ := hxx
    refine hb2 t 0 _ _ _ ⟨p, k, ag, u, s, y, c.set (by omega), sl_ne h17 (by decide), od, sl_eq (by rw [c.len]; decide), hy, h⟩ fun σ'' H'' hQ => ?_
    obtain ⟨p, k, ag, u, s, y, c, h17, od, _, _, h⟩ := hQ
    exact ⟨p, k, ag, u, s, c, h17, od, h⟩
  · intro σ' H' hP
    obtain ⟨p, k, ag, u, s, c, _⟩ := hP
    exact kk _ _ ⟨p, k, ag, c⟩
theorem end_12 (hr : Room 9 (LX P w K mg base fa cdv s0 H0).A) (C1 : CalX P w K mg base "most_many" ["keep", "age"] sMostMany 4 (spMost Z Cr Sh.mm) fMM dMM) (C2 : CalX P w K mg base "most_spans" ["keep", "rows"] sMostSpans 4 (spMost Z Cr Sh.ms) fMS dMS) :
    ∃ t, PS (LX P w K mg base fa cdv s0 H0) (lawS 12) t ∧ ∀ i D σ H, A2 K Z a ns i σ H → (∀ H', D.rt (.bl true) H') → t D σ H := by
  have hu : (LX P w K mg base fa cdv s0 H0).A.units + 64 < cLine := hr.units
  refine ⟨_, (ps_ret (pe_cmpR (op_eqD hu) (pe_lst (pa_cons (pe_call C1.ok (hr.mono (by decide)) (by rfl) C1.ns.mg C1.ns.fn.kp C1.ns.bd .nil passL (pa_cons (pv 18) (pa_cons pe_int pa_nil))) (pa_cons (pe_call C2.ok (hr.mono (by decide)) (by rfl) C2.ns.mg C2.ns.fn.kp C2.ns.bd .nil passL (pa_cons (pv 18) (pa_cons pe_int pa_nil))) pa_nil))) (pe_lst (pa_cons pe_int (pa_cons pe_int pa_nil))) (nomark _))), fun i D σ H hA kk => ?_⟩
  obtain ⟨p, k, ag, c⟩ := hA
  have k2 := c.k2
  have e1 : Sh.mm k 0 = 1 := by
    show (if (k - 1) * (2 * 1 - 1) ≤ 0 then _ else 1) = 1
    rw [if_neg (by omega)]
  have e2 : Sh.ms k 0 = 0 := by
    show (if k * 1 ≤ 0 then _ else 0 + 0 / 1) = 0
    rw [if_neg (by omega)]
  refine s_ret (v := .bl true) (ev_opLL (el_lst (ec (ev_call (ec (ev_var c.v18) (ec ev_c ez)) (spMost.use c.k2 c.k8 (ag := 0) (by decide) c.ok)) (ec (ev_call (ec (ev_var c.v18) (ec ev_c ez)) (spMost.use c.k2 c.k8 (ag := 0) (by decide) c.ok)) ez)) (by show 2 ≤ 100000; decide)) (el_lst (ec ev_c (ec ev_c ez)) (by show 2 ≤ 100000; decide)) fun r1 r2 H1 h1 h2 e H2 x2 Q q => ?_) fun H1 _ => kk H1
  rw [e1, e2] at h1
  exact ⟨.list [.int 1, .int 0], .list [.int 1, .int 0], .lst (SqL.of (x2 _ _ h1)) (.cons (.int _) (.cons (.int _) .nil)), .lst (SqL.of (x2 _ _ h2)) (.cons (.int _) (.cons (.int _) .nil)), rfl, rfl, q H2 (Ex.refl _)⟩
end
end K11
set_option Elab.async false
set_option linter.all false
set_option maxRecDepth 100000
set_option maxHeartbeats 4000000
namespace K11
open PySem PySem.Spec PyProof.Rows L2 GxR Pu Evl
def Fx (K : PySem.W.Frag) (mg : Str → Option Value) (x : Str) (ps : List Str) (st : Stmt) : Prop := ∃ f fd, Fns K mg x ps st f fd
def Fk (K : PySem.W.Frag) (mg : Str → Option Value) (x : Str) (ps : List Str) (st : Stmt) (ks : List Str) (is : List Nat) : Prop := ∃ f fd, Fns K mg x ps st f fd ∧ KwOk K fd ps ks (perm is) (perm is)
/-- a def of the text -/
def DefIn (K : PySem.W.Frag) (x : Str) (st : Stmt) : Prop := ∃ (f : Addr) (oc : Value) (od : Option Addr) (kV doc pm : Value) (an : Option Addr) (cd ct : Value) (sl : Array (Option Value)),
  PySem.W.nsIn K mainGlobals x = some (some (.ref f)) ∧ K.lookup f = some ⟨oc, od, .func (PySem.W.fnOf x x (defArgs st) (defBody st) (defScope st) .none kV doc pm an cd ct), sl⟩ ∧ PySem.W.codeIn K cd x = true ∧ PySem.W.keepIn K (.ref f) = true
section
variable {K : PySem.W.Frag} {h : Heap} {mg : Str → Option Value}
theorem DefIn.fx {x : Str} {ps : List Str} {st : Stmt} (X : K.In h) (G : h.Ns mainGlobals mg) (D : DefIn K x st)
    (hb : ∀ (kV doc pm : Value) (an : Option Addr) (cdv ct : Value) (us : List Value), us.length = ps.length → bindArgs (PySem.W.fnOf x x (defArgs st) (defBody st) (defScope st) .none kV doc pm an cdv ct) ⟨us, []⟩ = pure (ps.zip us)) : Fx K mg x ps st := by
  obtain ⟨f, oc, od, kV, doc, pm, an, cd, ct, sl, h1, h2, h3, h4⟩ := D
  exact ⟨f, _, fun_mk h2 h3 h4, (fun_mk h2 h3 h4).binds hb, PySem.W.mg_of X G h1⟩
theorem DefIn.fk {x : Str} {ps ks : List Str} {is : List Nat} {st : Stmt} (X : K.In h) (G : h.Ns mainGlobals mg) (D : DefIn K x st)
    (hb : ∀ (kV doc pm : Value) (an : Option Addr) (cdv ct : Value) (us : List Value), us.length = ps.length → bindArgs (PySem.W.fnOf x x (defArgs st) (defBody st) (defScope st) .none kV doc pm an cdv ct) ⟨us, []⟩ = pure (ps.zip us))
    (hk : ∀ (kV doc pm : Value) (an : Option Addr) (cdv ct : Value) (ws : List Value), ws.length = is.length → bindArgs (PySem.W.fnOf x x (defArgs st) (defBody st) (defScope st) .none kV doc pm an cdv ct) ⟨[], ks.zip ws⟩ = pure (ps.zip (perm is ws))) (hn : 0 < ps.length) : Fk K mg x ps st ks is := by
  obtain ⟨f, oc, od, kV, doc, pm, an, cd, ct, sl, h1, h2, h3, h4⟩ := D
  exact ⟨f, _, ⟨fun_mk h2 h3 h4, (fun_mk h2 h3 h4).binds hb, PySem.W.mg_of X G h1⟩, kwOk (fun ws hl => hk _ _ _ _ _ _ ws hl) hn⟩
end
theorem DefIn.mk {K : PySem.W.Frag} {x : Str} {st : Stmt} {f : Addr} {oc : Value} {od : Option Addr} {kV doc pm : Value} {an : Option Addr} {cd ct : Value} {sl : Array (Option Value)}
    (h1 : PySem.W.nsIn K mainGlobals x = some (some (.ref f))) (h2 : K.lookup f = some ⟨oc, od, .func (PySem.W.fnOf x x (defArgs st) (defBody st) (defScope st) .none kV doc pm an cd ct), sl⟩) (h3 : PySem.W.codeIn K cd x = true) (h4 : PySem.W.keepIn K (.ref f) = true) : DefIn K x st :=
  ⟨f, oc, od, kV, doc, pm, an, cd, ct, sl, h1, h2, h3, h4⟩
theorem tab_mk {K : PySem.W.Frag} {x : Str} {f c T : Addr} {oc cc : Value} {od oe : Option Addr} {fd : FuncData} {vs : Array Value} {sl sm : Array (Option Value)} (h1 : PySem.W.nsIn K mainGlobals x = some (some (.ref f))) (h2 : K.lookup f = some ⟨oc, od, .func fd, sl⟩) (hc : fd.code = .ref c)
    (h3 : K.lookup c = some ⟨cc, oe, .fields vs, sm⟩) (h4 : (vs[11]? : Option Value) = some (.ref T)) : PySem.W.tabIn K x = some (c, T) := by
  unfold PySem.W.tabIn
  rw [h1]
  show (match K.lookup f with
    | some ⟨_, _, .func fd, _⟩ => _
    | _ => none) = _
  rw [h2]
  show (match fd.code with
    | .ref c => _
    | _ => none) = _
  rw [hc]
  show (match K.lookup c with
    | some ⟨_, _, .fields vs, _⟩ => _
    | _ => none) = _
  rw [h3]
  show (match (vs[11]? : Option Value) with
    | some (.ref P) => some (c, P)
    | _ => none) = _
  rw [h4]
theorem cst_mk {K : PySem.W.Frag} {x : Str} {v : V} {u : Value} (h : PySem.W.nsIn K mainGlobals x = some (some u)) (r : RelV v u) : ∃ u, PySem.W.nsIn K mainGlobals x = some (some u) ∧ RelV v u := ⟨u, h, r⟩
theorem oex_mk {K : PySem.W.Frag} {C : Addr} {nm : _} {q : _} {N : _} {bs : _} {bm : _} {sn : _} {sub : _} {ab : _} {col : _} {dd : _} {k0 : _} {k1 : _} {k2 : _} {k3 : _} {k5 : _} (h : K.lookup C = some (excClassObj nm q C N bs bm true sn sub ab col dd k0 k1 k2 k3 k5 "ValueError.__new__")) (r : PySem.HandSPX.refsVE bm = true)
    (sa : PySem.W.findIn K (.ref C) "__setattr__" = some (some (.builtin "object.__setattr__"))) (ex : PySem.W.subIn K (.ref C) (.type "BaseException") = some true) (ty : PySem.W.typeIn K (.ref C) = some (.type "type")) (k : PySem.W.keepIn K (.ref C) = true) : OexC K C :=
  ⟨⟨_, _, _, _, _, _, _, _, _, _, _, _, _, _, _, h, r⟩, sa, ex, ty, k⟩
/-- the class of the errors of values, and the one under it -/
def ClsIn (K : PySem.W.Frag) : Prop := ∃ (Cr CF fI : Addr) (dI : FuncData), RefC K Cr fI ∧ Fun K "__init__" "Refused.__init__" sInit fI dI ∧ Binds K dI ["self", "at"] [] ∧ PySem.W.nsIn K mainGlobals "Refused" = some (some (.ref Cr)) ∧ PySem.W.nsIn K mainGlobals "FarError" = some (some (.ref CF)) ∧
  PySem.W.kitOne K (.ref Cr) (.ref CF) = some true ∧ PySem.W.exmOne K (.ref Cr) (.ref Cr) = some true
theorem ClsIn.mk {K : PySem.W.Frag} {Cr CF fI : Addr} {nm : _} {q : _} {N : _} {bs : _} {bm : _} {sn : _} {sub : _} {ab : _} {col : _} {dd : _} {k0 : _} {k1 : _} {k2 : _} {k3 : _} {k5 : _} {oc : Value} {od : Option Addr} {kV doc pm : Value} {an : Option Addr} {cd ct : Value} {sl : Array (Option Value)}
    (aR : PySem.W.nsIn K mainGlobals "Refused" = some (some (.ref Cr))) (aF : PySem.W.nsIn K mainGlobals "FarError" = some (some (.ref CF)))
    (h : K.lookup Cr = some (excClassObj nm q Cr N bs bm true sn sub ab col dd k0 k1 k2 k3 k5 "ValueError.__new__")) (r : PySem.HandSPX.refsVE bm = true)
    (sa : PySem.W.findIn K (.ref Cr) "__setattr__" = some (some (.builtin "object.__setattr__"))) (ex : PySem.W.subIn K (.ref Cr) (.type "BaseException") = some true) (ty : PySem.W.typeIn K (.ref Cr) = some (.type "type")) (k : PySem.W.keepIn K (.ref Cr) = true)
    (ini : PySem.W.findIn K (.ref Cr) "__init__" = some (some (.ref fI))) (tI : PySem.W.typeIn K (.ref fI) = some (.type "function"))
    (hg : PySem.W.findIn K (.ref Cr) "__getattribute__" = some (some (.builtin "BaseException.__getattribute__"))) (hk : PySem.W.findIn K (.ref Cr) "__getattr__" = some none) (hd : PySem.W.hasDictIn K Cr = true)
    (ha : PySem.W.findIn K (.ref Cr) "__class__" = some (some (.builtin "object.__class__"))) (hn : PySem.W.specialIn K (.builtin "object.__class__") "__get__" = some (some (.builtin "getset_descriptor.__get__"))) (ht : PySem.W.takesIn K (.builtin "object.__class__") = some true) (hm : PySem.W.mroIn K Cr (.type "object") = some true)
    (no : PySem.W.findIn K (.ref Cr) "at" = some none)
    (l : K.lookup fI = some ⟨oc, od, .func (PySem.W.fnOf "__init__" "Refused.__init__" (defArgs sInit) (defBody sInit) (defScope sInit) .none kV doc pm an cd ct), sl⟩) (c : PySem.W.codeIn K cd "Refused.__init__" = true) (kI : PySem.W.keepIn K (.ref fI) = true)
    (kit : PySem.W.kitOne K (.ref Cr) (.ref CF) = some true) (sb : PySem.W.subIn K (.ref Cr) (.ref Cr) = some true) : ClsIn K :=
  ⟨Cr, CF, fI, _, ⟨oex_mk h r sa ex ty k, ini, tI, ⟨hg, hk, ex, hd⟩, ⟨hg, hk, ex, hd, ha, hn, ht, hm⟩, no⟩, fun_mk (st := sInit) l c kI, (fun_mk (st := sInit) l c kI).binds (fun _ _ _ _ _ _ us hl => match us, hl with | [_, _], _ => rfl), aR, aF, kit, PySem.W.exm_ref ex hd ty sb⟩
/-- all that the text must hold -/
structure AllF (K : PySem.W.Frag) (mg : Str → Option Value) (c0 : Addr) (c1 : Addr) : Prop where
  g : Mg mg
  int : Fx K mg "is_integer" ["value"] sIsInteger
  num : Fx K mg "is_number" ["value"] sIsNumber
  seq : Fx K mg "is_sequence" ["value"] sIsSequence
  par : Fx K mg "is_of_parts" ["value", "many"] sIsOfParts
  nn : Fx K mg "need_number" ["value"] sNeedNumber
  ik : Fx K mg "is_keep" ["value"] sIsKeep
  nk : Fx K mg "need_keep" ["keep"] sNeedKeep
  co : Fx K mg "counts_of" ["keep", "many"] sCountsOf
  sf : Fx K mg "shape_from" ["keep", "first", "laid"] sShapeFrom
  nr : Fx K mg "need_rows" ["first", "laid"] sNeedRows
  sh : Fx K mg "shape" ["keep", "first", "laid"] sShape
  st : Fx K mg "is_stretch" ["value"] sIsStretch
  fo : Fx K mg "first_of" ["some", "laid"] sFirstOf
  ls : Fx K mg "lay_shape" ["laid", "some", "keep"] sLayShape
  lg : Fx K mg "let_go_shape" ["some", "below"] sLetGo
  mm : Fk K mg "most_many" ["keep", "age"] sMostMany ["age", "keep"] [1, 0]
  ms : Fk K mg "most_spans" ["keep", "rows"] sMostSpans ["rows", "keep"] [1, 0]
  box : Fx K mg "_law_box" ["_law_script", "_law_k"] sBox
  take : Fx K mg "_law_take" ["_law_box_here", "_law_many"] sTake
  pick : Fx K mg "_law_pick" ["_law_box_here", "_law_some"] sPick
  rf : Fx K mg "_law_refused" ["_law_ask"] sLRefused
  cr : Fx K mg "_law_crosses" ["_law_one", "_law_other"] sLCross
  cls : ∃ (Cr CF fI : Addr) (dI : FuncData), RefC K Cr fI ∧ Fun K "__init__" "Refused.__init__" sInit fI dI ∧ Binds K dI ["self", "at"] [] ∧ mg "Refused" = some (.ref Cr) ∧ mg "FarError" = some (.ref CF) ∧ PySem.W.kitOne K (.ref Cr) (.ref CF) = some true ∧ PySem.W.exmOne K (.ref Cr) (.ref Cr) = some true
  ish : ∃ f fd, FunC K "is_shape" "is_shape" sIsShape f fd c0 ∧ Binds K fd ["keep", "laid", "value"] [] ∧ mg "is_shape" = some (.ref f)
section
variable {P : Program} {w : World} {K : PySem.W.Frag} {mg : Str → Option Value} {c0 c1 T0 T1 a fa : Addr} {ns : List Int}
theorem body (F : AllF K mg c0 c1) (n01 : T0 ≠ T1) (hn : ns.length ≤ 100) (hr12 : Room 12 callerA) : BodyOkC P w K mg [(c0, T0), (c1, T1)] lawN sLaw fa a ns (.ref c1) := by
  intro base s H M hTB hT hS
  have TB0 : TabB base mg c0 T0 := hTB (c0, T0) List.mem_cons_self
  have TB1 : TabB base mg c1 T1 := hTB (c1, T1) (List.mem_cons_of_mem _ List.mem_cons_self)
  obtain ⟨Z, hZ⟩ : ∃ Z : Tx, Z = ⟨[T0], T1, (LX P w K mg base fa (.ref c1) s H).env.qual ++ "<lambda>"⟩ := ⟨_, rfl⟩
  have m0 : T0 ∈ Z.ts := by rw [hZ]; exact List.mem_cons_self
  have np : Z.p ∉ Z.ts := by
    rw [hZ]
    intro h
    rcases List.mem_cons.mp h with z | h
    · exact n01 z.symm
    · cases h
  have TL : LamX.TabB base mg c1 Z.p := by rw [hZ]; exact ⟨TB1.code, TB1.bm, TB1.gP⟩
  have hq : (LX P w K mg base fa (.ref c1) s H).env.qual ++ "<lambda>" = Z.q := by rw [hZ]
  have hz : Z.Ok H := by
    rw [hZ]
    refine ⟨fun T hh => ?_, #[], hT (c1, T1) (List.mem_cons_of_mem _ List.mem_cons_self), trivial, fun pos cv h => nomatch h⟩
    rcases List.mem_cons.mp hh with z | hh
    · rw [z]; exact ⟨#[], hT (c0, T0) List.mem_cons_self, trivial⟩
    · cases hh
  clear hZ
  have hrX : Room 10 (LX P w K mg base fa (.ref c1) s H).A := (hr12.mono (show 11 ≤ 12 by decide)).deeper _
  have hr : Room 9 (LX P w K mg base fa (.ref c1) s H).A := hrX.mono (by decide)
  have G := F.g
  obtain ⟨f_int, d_int, x_int⟩ := F.int
  obtain ⟨f_num, d_num, x_num⟩ := F.num
  obtain ⟨f_seq, d_seq, x_seq⟩ := F.seq
  obtain ⟨f_par, d_par, x_par⟩ := F.par
  obtain ⟨f_nn, d_nn, x_nn⟩ := F.nn
  obtain ⟨f_ik, d_ik, x_ik⟩ := F.ik
  obtain ⟨f_nk, d_nk, x_nk⟩ := F.nk
  obtain ⟨f_co, d_co, x_co⟩ := F.co
  obtain ⟨f_sf, d_sf, x_sf⟩ := F.sf
  obtain ⟨f_nr, d_nr, x_nr⟩ := F.nr
  obtain ⟨f_sh, d_sh, x_sh⟩ := F.sh
  obtain ⟨f_st, d_st, x_st⟩ := F.st
  obtain ⟨f_fo, d_fo, x_fo⟩ := F.fo
  obtain ⟨f_ls, d_ls, x_ls⟩ := F.ls
  obtain ⟨f_lg, d_lg, x_lg⟩ := F.lg
  obtain ⟨f_mm, d_mm, x_mm, w_mm⟩ := F.mm
  obtain ⟨f_ms, d_ms, x_ms, w_ms⟩ := F.ms
  obtain ⟨f_box, d_box, x_box⟩ := F.box
  obtain ⟨f_take, d_take, x_take⟩ := F.take
  obtain ⟨f_pick, d_pick, x_pick⟩ := F.pick
  obtain ⟨f_rf, d_rf, x_rf⟩ := F.rf
  obtain ⟨f_cr, d_cr, x_cr⟩ := F.cr
  obtain ⟨f_ish, d_ish, c_ish, b_ish, g_ish⟩ := F.ish
  obtain ⟨Cr, CF, fI, dI, RC, FI, bI, mC, mF, kit, exm⟩ := F.cls
  have x_ish : Fns K mg "is_shape" ["keep", "laid", "value"] sIsShape f_ish d_ish := ⟨c_ish.fn, b_ish, g_ish⟩
  have gNN : FnOk P w K mg base CX0 3 f_nn d_nn ["value"] (spV pNat) := ok_need_number M G x_nn.fn x_num x_int
  have gNK : FnOk P w K mg base CX0 3 f_nk d_nk ["keep"] (spV pKeep) := ok_need_keep M G x_nk.fn x_ik x_int
  have gSF : FnOk P w K mg base CX0 5 f_sf d_sf ["keep", "first", "laid"] (spSh pShape) := ok_shape_from M G x_sf.fn x_co x_nk x_ik x_int
  have B : Base P w K mg base f_nn f_nk f_sf d_nn d_nk d_sf := ⟨gNN, gNK, gSF⟩
  have gNR : FnOk P w K mg base CX0 4 f_nr d_nr ["first", "laid"] (spV pRows) := ok_need_rows M G x_nr.fn x_nn x_num x_int
  have gSt : PF P w K mg base 3 f_st d_st ["value"] pStretch := pf_is_stretch M G x_st.fn x_par.fn x_par.bd x_par.mg x_num.fn x_num.bd x_num.mg x_seq.fn x_seq.bd x_seq.mg x_int.fn x_int.bd x_int.mg
  have gFO : FnOk P w K mg base CX0 1 f_fo d_fo ["some", "laid"] (spV (pFirst K)) := ok_first_of G x_fo.fn
  have gIS : FnOk P w K mg base CX0 6 f_ish d_ish ["keep", "laid", "value"] (spIsShape K T0) := ok_is_shape M G c_ish TB0 B x_nk x_nn x_sf x_seq x_st gSt x_fo gFO
  have CSh : Cal P w K mg base "shape" ["keep", "first", "laid"] sShape 6 (spSh pShape) f_sh d_sh := ⟨x_sh, ok_shape x_sh.fn B gNR x_nk x_nr x_sf⟩
  have CLS : Cal P w K mg base "lay_shape" ["laid", "some", "keep"] sLayShape 7 (spLay K T0) f_ls d_ls := ⟨x_ls, ok_lay_shape x_ls.fn B x_ish gIS x_sf x_fo gFO⟩
  have CLG : Cal P w K mg base "let_go_shape" ["some", "below"] sLetGo 4 (spSh (pGo K)) f_lg d_lg := ⟨x_lg, ok_let_go G x_lg.fn B x_nn⟩
  have gI : FnOk P w K mg base CX0 1 fI dI ["self", "at"] (spInitAt Cr) := ok_init RC FI
  have CNum : Cal P w K mg base "is_number" ["value"] sIsNumber 2 (spPure P w base ["value"] pNumber) f_num d_num := ⟨x_num, (pf_is_number M G x_num.fn x_int.fn x_int.bd x_int.mg).ok⟩
  have CIK : Cal P w K mg base "is_keep" ["value"] sIsKeep 2 (spPure P w base ["value"] pKeepF) f_ik d_ik := ⟨x_ik, (pf_is_keep M G x_ik.fn x_int).ok⟩
  have XNN : CalX P w K mg base "need_number" ["value"] sNeedNumber 3 (spNeed K Z Cr isNum) f_nn d_nn := ⟨x_nn, ok_needN M G RC gI bI mC x_nn.fn CNum⟩
  have XNK : CalX P w K mg base "need_keep" ["keep"] sNeedKeep 3 (spNeed K Z Cr keepB) f_nk d_nk := ⟨x_nk, ok_needK RC gI bI mC x_nk.fn CIK⟩
  have XMM : CalX P w K mg base "most_many" ["keep", "age"] sMostMany 4 (spMost Z Cr Sh.mm) f_mm d_mm := ⟨x_mm, ok_mostM x_mm.fn XNK XNN⟩
  have XMS : CalX P w K mg base "most_spans" ["keep", "rows"] sMostSpans 4 (spMost Z Cr Sh.ms) f_ms d_ms := ⟨x_ms, ok_mostS x_ms.fn XNK XNN⟩
  have CBox : Cal P w K mg base "_law_box" ["_law_script", "_law_k"] sBox 1 (spBox K ns) f_box d_box := ⟨x_box, ok_box G x_box.fn⟩
  have CT : Cal P w K mg base "_law_take" ["_law_box_here", "_law_many"] sTake 1 spTake f_take d_take := ⟨x_take, ok_take G x_take.fn⟩
  have CP : Cal P w K mg base "_law_pick" ["_law_box_here", "_law_some"] sPick 2 spPick f_pick d_pick := ⟨x_pick, ok_pick G x_pick.fn x_take⟩
  have CCr : Cal P w K mg base "_law_crosses" ["_law_one", "_law_other"] sLCross 1 (spCross K) f_cr d_cr := ⟨x_cr, ok_cross G x_cr.fn⟩
  have b3 : ∀ p k ag, Tis (LX P w K mg base fa (.ref c1) s H) (bodyOf (lawS 3)) (K11.T0 K Z a ns p k ag) (fun i => A3 K Z a ns p k ag (i + 1)) := fun p k ag =>
    Tis.cons (in_30 hr CSh) (Tis.cons in_31 (Tis.cons (in_32 hr G) (Tis.cons (in_33 G) (Tis.one (in_34 G)))))
  have b81 : Tis (LX P w K mg base fa (.ref c1) s H) (bodyOf (inS 8 1)) (fun N σ H => N < 39 ∧ R8 K Z a ns N σ H) (fun N => R8 K Z a ns (N + 1)) := Tis.cons (in_810 hr CLS m0 np) (Tis.one (in_811 hr))
  have b8 : Tis (LX P w K mg base fa (.ref c1) s H) (bodyOf (lawS 8)) (fun i σ H => R8 K Z a ns (3 * i) σ H ∧ σ[13]? = some (some (.int ((i + 1 : Nat) : Int))) ∧ i < 13) (fun i => A7 K Z a ns (i + 1)) :=
    Tis.cons (in_80 hr CBox hn) (Tis.cons (in_81 hr G CT b81) (Tis.cons (in_82 hr CT CLG) (Tis.one (in_83 hr XMM))))
  have b11 : ∀ t, Tis (LX P w K mg base fa (.ref c1) s H) (bodyOf (lawS 11)) (Q0 K Z a ns f_mm f_ms t) (Q0 K Z a ns f_mm f_ms t) := fun t =>
    Tis.cons (in_110 hrX G XMM XMS x_rf.fn x_rf.mg x_rf.bd RC mC mF kit exm TL np hq) (Tis.cons (in_111 hr CP) (Tis.one (in_112 hrX G XMM XMS x_rf.fn x_rf.mg x_rf.bd RC mC mF kit exm TL np hq)))
  have bd : Te (LX P w K mg base fa (.ref c1) s H) (defBody sLaw) (A0 K Z a ns) :=
    Te.cons (ti_0 hr CBox hn) (Te.cons (ti_1 hr CT) (Te.cons ti_2 (Te.cons (ti_3 G b3) (Te.cons (ti_4 hr XMM) (Te.cons (ti_5 hr G XMM w_mm) (Te.cons (ti_6 hr G XMS w_ms) (Te.cons ti_7 (Te.cons (ti_8 G b8) (Te.cons (ti_9 hr CCr) (Te.cons (ti_10 hr CP) (Te.cons (ti_11 x_mm.mg x_ms.mg b11) (Te.one (end_12 hr XMM XMS)))))))))))))
  obtain ⟨tb, hb1, hb2⟩ := bd
  refine ⟨_, hb1, ?_⟩
  refine hb2 0 _ _ _ ?_ fun H'' => rfl
  have na : a ∉ [a + 1] := fun h => by
    have z := List.mem_singleton.mp h
    exact absurd z (by simp)
  exact ⟨a + 1, rfl, rfl, hz, kp_L na hS⟩
end
theorem walk {l : PySem.W.OpenLaw} {q : Program} {loose : List Str} {XP : (Str → Option Value) → Heap → Prop} {YP : World → Heap → Prop} {d d0 d1 : DefRec} {K : Params → PySem.W.Frag} (hn : l.most = some 63) (hdf : d.params.defaults = []) (hd0 : (recsOf q).find? (fun e => e.name == ("is_shape" : Str)) = some d0) (hd1 : (recsOf q).find? (fun e => e.name == ("law" : Str)) = some d1)
    (hY : ∀ (w : World) (h : Heap), YP w h → (K w.params).In h)
    (F : ∀ (w : World) (mg : Str → Option Value) (fa : Addr) (h : Heap), (K w.params).In h → h.Ns mainGlobals mg → mg d.name = some (.ref fa) →
      ∃ (fd : FuncData) (c0 T0 : Addr) (c1 T1 : Addr), FunC (K w.params) "law" "law" sLaw fa fd c1 ∧ (∀ (s : Shared) (u : Value), BindsTo s fd ⟨[u], []⟩ [("_law_script", u)]) ∧ AllF (K w.params) mg c0 c1 ∧ PySem.W.tabIn (K w.params) "is_shape" = some (c0, T0) ∧ (K w.params).lookup T0 = none ∧ PySem.W.tabIn (K w.params) "law" = some (c1, T1) ∧ (K w.params).lookup T1 = none ∧ T0 ≠ T1) :
    PySem.W.WalkO q loose XP YP l.row.toRowW d [] (fun f vs => PySem.call f vs) := by
  refine Att.attach_callB hn hdf fun w s₀ s₁ mg mb fa o pm cd doc a vs ns G Y ho hd hcd hmg hobj hints hlen hbits hg => ?_
  have KX := hY w _ Y
  obtain ⟨fd, c0, T0, c1, T1, Fn, hb, A, ht0, nT0, ht1, nT1, ne01⟩ := F w mg fa _ KX G.T.g hmg
  obtain ⟨C0, hT0⟩ := PySem.W.tab_of G.T KX hd0 ht0
  obtain ⟨C1, hT1⟩ := PySem.W.tab_of G.T KX hd1 ht1
  have one : Bare [(c0, T0), (c1, T1)] (K w.params) _ := fun p hp => by
    rcases List.mem_cons.mp hp with z | hp
    · rw [z]; exact ⟨⟨hT0, nT0⟩, C0⟩
    rcases List.mem_cons.mp hp with z | hp
    · rw [z]; exact ⟨⟨hT1, nT1⟩, C1⟩
    · cases hp
  have hr : Room 12 callerA := ⟨rfl, by decide, by decide⟩
  exact law_endC (cs := [(c0, T0), (c1, T1)]) KX G.T.g G.T.b G.T.builtins G.T.nolimit hg one G.T.bmain hobj hints (Nat.le_trans hlen (by decide)) Fn scLaw hb (hr.mono (by decide)) (body A ne01 (by omega) hr)
end K11
set_option Elab.async false
set_option linter.all false
set_option maxRecDepth 100000
set_option maxHeartbeats 4000000
namespace K11
open PySem PySem.Spec PyProof.Rows L2 GxR Pu Evl
theorem allf {K : PySem.W.Frag} {h : Heap} {mg : Str → Option Value} {f0 c0 : Addr} {od0 an0 : Option Addr} {sl0 : Array (Option Value)} {oc0 kV0 dc0 pm0 ct0 : Value} {f1 c1 : Addr} {od1 an1 : Option Addr} {sl1 : Array (Option Value)} {oc1 kV1 dc1 pm1 ct1 : Value} (X : K.In h) (G : h.Ns mainGlobals mg)
    (d_int : DefIn K "is_integer" sIsInteger)
    (d_num : DefIn K "is_number" sIsNumber)
    (d_seq : DefIn K "is_sequence" sIsSequence)
    (d_par : DefIn K "is_of_parts" sIsOfParts)
    (d_nn : DefIn K "need_number" sNeedNumber)
    (d_ik : DefIn K "is_keep" sIsKeep)
    (d_nk : DefIn K "need_keep" sNeedKeep)
    (d_co : DefIn K "counts_of" sCountsOf)
    (d_sf : DefIn K "shape_from" sShapeFrom)
    (d_nr : DefIn K "need_rows" sNeedRows)
    (d_sh : DefIn K "shape" sShape)
    (d_st : DefIn K "is_stretch" sIsStretch)
    (d_fo : DefIn K "first_of" sFirstOf)
    (d_ls : DefIn K "lay_shape" sLayShape)
    (d_lg : DefIn K "let_go_shape" sLetGo)
    (d_mm : DefIn K "most_many" sMostMany)
    (d_ms : DefIn K "most_spans" sMostSpans)
    (d_box : DefIn K "_law_box" sBox)
    (d_take : DefIn K "_law_take" sTake)
    (d_pick : DefIn K "_law_pick" sPick)
    (d_rf : DefIn K "_law_refused" sLRefused)
    (d_cr : DefIn K "_law_crosses" sLCross)
    (a_ish : PySem.W.nsIn K mainGlobals "is_shape" = some (some (.ref f0))) (l_ish : K.lookup f0 = some ⟨oc0, od0, .func (PySem.W.fnOf "is_shape" "is_shape" (defArgs sIsShape) (defBody sIsShape) (defScope sIsShape) .none kV0 dc0 pm0 an0 (.ref c0) ct0), sl0⟩) (c_ish : PySem.W.codeIn K (.ref c0) "is_shape" = true) (k_ish : PySem.W.keepIn K (.ref f0) = true)
    (a_lw : PySem.W.nsIn K mainGlobals "law" = some (some (.ref f1))) (l_lw : K.lookup f1 = some ⟨oc1, od1, .func (PySem.W.fnOf "law" "law" (defArgs sLaw) (defBody sLaw) (defScope sLaw) .none kV1 dc1 pm1 an1 (.ref c1) ct1), sl1⟩) (c_lw : PySem.W.codeIn K (.ref c1) "law" = true) (k_lw : PySem.W.keepIn K (.ref f1) = true)
    (d_cls : ClsIn K)
    (z_isinstance : PySem.W.nsIn K mainGlobals "isinstance" = some none)
    (z_int : PySem.W.nsIn K mainGlobals "int" = some none)
    (z_bool : PySem.W.nsIn K mainGlobals "bool" = some none)
    (z_list : PySem.W.nsIn K mainGlobals "list" = some none)
    (z_tuple : PySem.W.nsIn K mainGlobals "tuple" = some none)
    (z_len : PySem.W.nsIn K mainGlobals "len" = some none)
    (z_range : PySem.W.nsIn K mainGlobals "range" = some none)
    (z_enumerate : PySem.W.nsIn K mainGlobals "enumerate" = some none)
    (z_reversed : PySem.W.nsIn K mainGlobals "reversed" = some none)
    (z_all : PySem.W.nsIn K mainGlobals "all" = some none)
    (z_abs : PySem.W.nsIn K mainGlobals "abs" = some none)
    (z_max : PySem.W.nsIn K mainGlobals "max" = some none)
    (z_min : PySem.W.nsIn K mainGlobals "min" = some none)
    (z_set : PySem.W.nsIn K mainGlobals "set" = some none)
    (z_repr : PySem.W.nsIn K mainGlobals "repr" = some none)
    (z_sorted : PySem.W.nsIn K mainGlobals "sorted" = some none)
    : AllF K mg c0 c1 where
  g := ⟨PySem.W.mg_none_of X G z_isinstance, PySem.W.mg_none_of X G z_int, PySem.W.mg_none_of X G z_bool, PySem.W.mg_none_of X G z_list, PySem.W.mg_none_of X G z_tuple, PySem.W.mg_none_of X G z_len, PySem.W.mg_none_of X G z_range, PySem.W.mg_none_of X G z_enumerate, PySem.W.mg_none_of X G z_reversed, PySem.W.mg_none_of X G z_all, PySem.W.mg_none_of X G z_abs, PySem.W.mg_none_of X G z_max, PySem.W.mg_none_of X G z_min, PySem.W.mg_none_of X G z_set, PySem.W.mg_none_of X G z_repr, PySem.W.mg_none_of X G z_sorted⟩
  int := d_int.fx X G (fun _ _ _ _ _ _ us hl => match us, hl with | [_], _ => rfl)
  num := d_num.fx X G (fun _ _ _ _ _ _ us hl => match us, hl with | [_], _ => rfl)
  seq := d_seq.fx X G (fun _ _ _ _ _ _ us hl => match us, hl with | [_], _ => rfl)
  par := d_par.fx X G (fun _ _ _ _ _ _ us hl => match us, hl with | [_, _], _ => rfl)
  nn := d_nn.fx X G (fun _ _ _ _ _ _ us hl => match us, hl with | [_], _ => rfl)
  ik := d_ik.fx X G (fun _ _ _ _ _ _ us hl => match us, hl with | [_], _ => rfl)
  nk := d_nk.fx X G (fun _ _ _ _ _ _ us hl => match us, hl with | [_], _ => rfl)
  co := d_co.fx X G (fun _ _ _ _ _ _ us hl => match us, hl with | [_, _], _ => rfl)
  sf := d_sf.fx X G (fun _ _ _ _ _ _ us hl => match us, hl with | [_, _, _], _ => rfl)
  nr := d_nr.fx X G (fun _ _ _ _ _ _ us hl => match us, hl with | [_, _], _ => rfl)
  sh := d_sh.fx X G (fun _ _ _ _ _ _ us hl => match us, hl with | [_, _, _], _ => rfl)
  st := d_st.fx X G (fun _ _ _ _ _ _ us hl => match us, hl with | [_], _ => rfl)
  fo := d_fo.fx X G (fun _ _ _ _ _ _ us hl => match us, hl with | [_, _], _ => rfl)
  ls := d_ls.fx X G (fun _ _ _ _ _ _ us hl => match us, hl with | [_, _, _], _ => rfl)
  lg := d_lg.fx X G (fun _ _ _ _ _ _ us hl => match us, hl with | [_, _], _ => rfl)
  mm := d_mm.fk X G (fun _ _ _ _ _ _ us hl => match us, hl with | [_, _], _ => rfl) (fun _ _ _ _ _ _ us hl => match us, hl with | [_, _], _ => rfl) (by decide)
  ms := d_ms.fk X G (fun _ _ _ _ _ _ us hl => match us, hl with | [_, _], _ => rfl) (fun _ _ _ _ _ _ us hl => match us, hl with | [_, _], _ => rfl) (by decide)
  box := d_box.fx X G (fun _ _ _ _ _ _ us hl => match us, hl with | [_, _], _ => rfl)
  take := d_take.fx X G (fun _ _ _ _ _ _ us hl => match us, hl with | [_, _], _ => rfl)
  pick := d_pick.fx X G (fun _ _ _ _ _ _ us hl => match us, hl with | [_, _], _ => rfl)
  rf := d_rf.fx X G (fun _ _ _ _ _ _ us hl => match us, hl with | [_], _ => rfl)
  cr := d_cr.fx X G (fun _ _ _ _ _ _ us hl => match us, hl with | [_, _], _ => rfl)
  cls := by
    obtain ⟨Cr, CF, fI, dI, h1, h2, h3, h4, h5, h6, h7⟩ := d_cls
    exact ⟨Cr, CF, fI, dI, h1, h2, h3, PySem.W.mg_of X G h4, PySem.W.mg_of X G h5, h6, h7⟩
  ish := ⟨f0, _, ⟨⟨oc0, od0, kV0, dc0, pm0, an0, ct0, sl0, rfl, l_ish, c_ish⟩, k_ish⟩, (fun_mk (st := sIsShape) l_ish c_ish k_ish).binds (fun _ _ _ _ _ _ us hl => match us, hl with | [_, _, _], _ => rfl), PySem.W.mg_of X G a_ish⟩
theorem fin {K : PySem.W.Frag} {h : Heap} {mg : Str → Option Value} {fa : Addr} {f0 c0 : Addr} {od0 an0 : Option Addr} {sl0 : Array (Option Value)} {oc0 kV0 dc0 pm0 ct0 : Value} {f1 c1 : Addr} {od1 an1 : Option Addr} {sl1 : Array (Option Value)} {oc1 kV1 dc1 pm1 ct1 : Value} {T0 : Addr} {cc0 : Value} {oe0 : Option Addr} {vs0 : Array Value} {sm0 : Array (Option Value)} {T1 : Addr} {cc1 : Value} {oe1 : Option Addr} {vs1 : Array Value} {sm1 : Array (Option Value)} (X : K.In h) (G : h.Ns mainGlobals mg) (hfa : mg "law" = some (.ref fa))
    (d_int : DefIn K "is_integer" sIsInteger)
    (d_num : DefIn K "is_number" sIsNumber)
    (d_seq : DefIn K "is_sequence" sIsSequence)
    (d_par : DefIn K "is_of_parts" sIsOfParts)
    (d_nn : DefIn K "need_number" sNeedNumber)
    (d_ik : DefIn K "is_keep" sIsKeep)
    (d_nk : DefIn K "need_keep" sNeedKeep)
    (d_co : DefIn K "counts_of" sCountsOf)
    (d_sf : DefIn K "shape_from" sShapeFrom)
    (d_nr : DefIn K "need_rows" sNeedRows)
    (d_sh : DefIn K "shape" sShape)
    (d_st : DefIn K "is_stretch" sIsStretch)
    (d_fo : DefIn K "first_of" sFirstOf)
    (d_ls : DefIn K "lay_shape" sLayShape)
    (d_lg : DefIn K "let_go_shape" sLetGo)
    (d_mm : DefIn K "most_many" sMostMany)
    (d_ms : DefIn K "most_spans" sMostSpans)
    (d_box : DefIn K "_law_box" sBox)
    (d_take : DefIn K "_law_take" sTake)
    (d_pick : DefIn K "_law_pick" sPick)
    (d_rf : DefIn K "_law_refused" sLRefused)
    (d_cr : DefIn K "_law_crosses" sLCross)
    (a_ish : PySem.W.nsIn K mainGlobals "is_shape" = some (some (.ref f0))) (l_ish : K.lookup f0 = some ⟨oc0, od0, .func (PySem.W.fnOf "is_shape" "is_shape" (defArgs sIsShape) (defBody sIsShape) (defScope sIsShape) .none kV0 dc0 pm0 an0 (.ref c0) ct0), sl0⟩) (c_ish : PySem.W.codeIn K (.ref c0) "is_shape" = true) (k_ish : PySem.W.keepIn K (.ref f0) = true)
    (a_lw : PySem.W.nsIn K mainGlobals "law" = some (some (.ref f1))) (l_lw : K.lookup f1 = some ⟨oc1, od1, .func (PySem.W.fnOf "law" "law" (defArgs sLaw) (defBody sLaw) (defScope sLaw) .none kV1 dc1 pm1 an1 (.ref c1) ct1), sl1⟩) (c_lw : PySem.W.codeIn K (.ref c1) "law" = true) (k_lw : PySem.W.keepIn K (.ref f1) = true)
    (d_cls : ClsIn K)
    (z_isinstance : PySem.W.nsIn K mainGlobals "isinstance" = some none)
    (z_int : PySem.W.nsIn K mainGlobals "int" = some none)
    (z_bool : PySem.W.nsIn K mainGlobals "bool" = some none)
    (z_list : PySem.W.nsIn K mainGlobals "list" = some none)
    (z_tuple : PySem.W.nsIn K mainGlobals "tuple" = some none)
    (z_len : PySem.W.nsIn K mainGlobals "len" = some none)
    (z_range : PySem.W.nsIn K mainGlobals "range" = some none)
    (z_enumerate : PySem.W.nsIn K mainGlobals "enumerate" = some none)
    (z_reversed : PySem.W.nsIn K mainGlobals "reversed" = some none)
    (z_all : PySem.W.nsIn K mainGlobals "all" = some none)
    (z_abs : PySem.W.nsIn K mainGlobals "abs" = some none)
    (z_max : PySem.W.nsIn K mainGlobals "max" = some none)
    (z_min : PySem.W.nsIn K mainGlobals "min" = some none)
    (z_set : PySem.W.nsIn K mainGlobals "set" = some none)
    (z_repr : PySem.W.nsIn K mainGlobals "repr" = some none)
    (z_sorted : PySem.W.nsIn K mainGlobals "sorted" = some none)
    (m_ish : K.lookup c0 = some ⟨cc0, oe0, .fields vs0, sm0⟩) (h_ish : (vs0[11]? : Option Value) = some (.ref T0)) (n_ish : K.lookup T0 = none)
    (m_lw : K.lookup c1 = some ⟨cc1, oe1, .fields vs1, sm1⟩) (h_lw : (vs1[11]? : Option Value) = some (.ref T1)) (n_lw : K.lookup T1 = none)
    (ne01 : T0 ≠ T1)
    : ∃ (fd : FuncData) (c0 T0 : Addr) (c1 T1 : Addr), FunC K "law" "law" sLaw fa fd c1 ∧ (∀ (s : Shared) (u : Value), BindsTo s fd ⟨[u], []⟩ [("_law_script", u)]) ∧ AllF K mg c0 c1 ∧ PySem.W.tabIn K "is_shape" = some (c0, T0) ∧ K.lookup T0 = none ∧ PySem.W.tabIn K "law" = some (c1, T1) ∧ K.lookup T1 = none ∧ T0 ≠ T1 := by
  have e := hfa.symm.trans (PySem.W.mg_of X G a_lw)
  cases e
  exact ⟨_, c0, T0, c1, T1, ⟨⟨oc1, od1, kV1, dc1, pm1, an1, ct1, sl1, rfl, l_lw, c_lw⟩, k_lw⟩, fun s v => .of_eq rfl, allf X G d_int d_num d_seq d_par d_nn d_ik d_nk d_co d_sf d_nr d_sh d_st d_fo d_ls d_lg d_mm d_ms d_box d_take d_pick d_rf d_cr a_ish l_ish c_ish k_ish a_lw l_lw c_lw k_lw d_cls z_isinstance z_int z_bool z_list z_tuple z_len z_range z_enumerate z_reversed z_all z_abs z_max z_min z_set z_repr z_sorted, tab_mk a_ish l_ish rfl m_ish h_ish, n_ish, tab_mk a_lw l_lw rfl m_lw h_lw, n_lw, ne01⟩
end K11
open PySem PySem.W PyProof.Rows in
set_option maxRecDepth 100000 in
set_option maxHeartbeats 0 in
theorem PySem.Challenge.cw_farstory_k11_whole_bounds_that_are_met_holds : PySem.Challenge.rw_farstory_k11_whole_bounds_that_are_met.Holds := by
  w_on; o_law; k_head; (case hw => w_witness2)
  k_fill
  refine K11.walk (l := PySem.Challenge.rw_farstory_k11_whole_bounds_that_are_met) rfl rfl rfl rfl (fun w h Y => PySem.W.km_in_of Y) ?F
  case F =>
    intro w mg fa h KX G hmg
    refine' K11.fin KX G hmg ?d_int ?d_num ?d_seq ?d_par ?d_nn ?d_ik ?d_nk ?d_co ?d_sf ?d_nr ?d_sh ?d_st ?d_fo ?d_ls ?d_lg ?d_mm ?d_ms ?d_box ?d_take ?d_pick ?d_rf ?d_cr ?a_ish ?l_ish ?c_ish ?k_ish ?a_lw ?l_lw ?c_lw ?k_lw ?d_cls ?z_isinstance ?z_int ?z_bool ?z_list ?z_tuple ?z_len ?z_range ?z_enumerate ?z_reversed ?z_all ?z_abs ?z_max ?z_min ?z_set ?z_repr ?z_sorted ?m_ish ?h_ish ?n_ish ?m_lw ?h_lw ?n_lw ?ne01
    (case d_int => refine' K11.DefIn.mk ?a ?l ?c ?k; (case a => k_is); (case l => k_is); (case c => k_is); (case k => k_is))
    (case d_num => refine' K11.DefIn.mk ?a ?l ?c ?k; (case a => k_is); (case l => k_is); (case c => k_is); (case k => k_is))
    (case d_seq => refine' K11.DefIn.mk ?a ?l ?c ?k; (case a => k_is); (case l => k_is); (case c => k_is); (case k => k_is))
    (case d_par => refine' K11.DefIn.mk ?a ?l ?c ?k; (case a => k_is); (case l => k_is); (case c => k_is); (case k => k_is))
    (case d_nn => refine' K11.DefIn.mk ?a ?l ?c ?k; (case a => k_is); (case l => k_is); (case c => k_is); (case k => k_is))
    (case d_ik => refine' K11.DefIn.mk ?a ?l ?c ?k; (case a => k_is); (case l => k_is); (case c => k_is); (case k => k_is))
    (case d_nk => refine' K11.DefIn.mk ?a ?l ?c ?k; (case a => k_is); (case l => k_is); (case c => k_is); (case k => k_is))
    (case d_co => refine' K11.DefIn.mk ?a ?l ?c ?k; (case a => k_is); (case l => k_is); (case c => k_is); (case k => k_is))
    (case d_sf => refine' K11.DefIn.mk ?a ?l ?c ?k; (case a => k_is); (case l => k_is); (case c => k_is); (case k => k_is))
    (case d_nr => refine' K11.DefIn.mk ?a ?l ?c ?k; (case a => k_is); (case l => k_is); (case c => k_is); (case k => k_is))
    (case d_sh => refine' K11.DefIn.mk ?a ?l ?c ?k; (case a => k_is); (case l => k_is); (case c => k_is); (case k => k_is))
    (case d_st => refine' K11.DefIn.mk ?a ?l ?c ?k; (case a => k_is); (case l => k_is); (case c => k_is); (case k => k_is))
    (case d_fo => refine' K11.DefIn.mk ?a ?l ?c ?k; (case a => k_is); (case l => k_is); (case c => k_is); (case k => k_is))
    (case d_ls => refine' K11.DefIn.mk ?a ?l ?c ?k; (case a => k_is); (case l => k_is); (case c => k_is); (case k => k_is))
    (case d_lg => refine' K11.DefIn.mk ?a ?l ?c ?k; (case a => k_is); (case l => k_is); (case c => k_is); (case k => k_is))
    (case d_mm => refine' K11.DefIn.mk ?a ?l ?c ?k; (case a => k_is); (case l => k_is); (case c => k_is); (case k => k_is))
    (case d_ms => refine' K11.DefIn.mk ?a ?l ?c ?k; (case a => k_is); (case l => k_is); (case c => k_is); (case k => k_is))
    (case d_box => refine' K11.DefIn.mk ?a ?l ?c ?k; (case a => k_is); (case l => k_is); (case c => k_is); (case k => k_is))
    (case d_take => refine' K11.DefIn.mk ?a ?l ?c ?k; (case a => k_is); (case l => k_is); (case c => k_is); (case k => k_is))
    (case d_pick => refine' K11.DefIn.mk ?a ?l ?c ?k; (case a => k_is); (case l => k_is); (case c => k_is); (case k => k_is))
    (case d_rf => refine' K11.DefIn.mk ?a ?l ?c ?k; (case a => k_is); (case l => k_is); (case c => k_is); (case k => k_is))
    (case d_cr => refine' K11.DefIn.mk ?a ?l ?c ?k; (case a => k_is); (case l => k_is); (case c => k_is); (case k => k_is))
    (case a_ish => k_is)
    (case l_ish => k_is)
    (case c_ish => k_is)
    (case k_ish => k_is)
    (case a_lw => k_is)
    (case l_lw => k_is)
    (case c_lw => k_is)
    (case k_lw => k_is)
    (case d_cls => refine' K11.ClsIn.mk ?aR ?aF ?h ?r ?sa ?ex ?ty ?k ?ini ?tI ?hg ?hk ?hd ?ha ?hn ?ht ?hm ?no ?l ?c ?kI ?kit ?sb; (case aR => k_is); (case aF => k_is); (case h => k_is); (case r => first | rfl | kernel_rfl | decide +kernel); (case sa => k_is); (case ex => k_is); (case ty => k_is); (case k => k_is); (case ini => k_is); (case tI => k_is); (case hg => k_is); (case hk => k_is); (case hd => k_is); (case ha => k_is); (case hn => k_is); (case ht => k_is); (case hm => k_is); (case no => k_is); (case l => k_is); (case c => k_is); (case kI => k_is); (case kit => first | rfl | kernel_rfl | decide +kernel); (case sb => k_is))
    (case z_isinstance => k_is)
    (case z_int => k_is)
    (case z_bool => k_is)
    (case z_list => k_is)
    (case z_tuple => k_is)
    (case z_len => k_is)
    (case z_range => k_is)
    (case z_enumerate => k_is)
    (case z_reversed => k_is)
    (case z_all => k_is)
    (case z_abs => k_is)
    (case z_max => k_is)
    (case z_min => k_is)
    (case z_set => k_is)
    (case z_repr => k_is)
    (case z_sorted => k_is)
    (case m_ish => k_is)
    (case h_ish => exact rfl)
    (case n_ish => kernel_rfl)
    (case m_lw => k_is)
    (case h_lw => exact rfl)
    (case n_lw => kernel_rfl)
    (case ne01 => decide)
