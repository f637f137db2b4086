import PyProof.Rows.All
import Wide.All
import OpenK.AllK
import Wide.FinOn
import HandS.ForMost
import HandS.IsInst
import HandS.AnyAll
import HandS.Evl
import PyProof.GenCompD
import PyProof.WalksMore
import HandS.EndTab
import PyProof.Rows.NestShow
import PyProof.ReprLen
import PyProof.ReprBulk
import KE.GoesMore
import HandS.Zip
import HandS.TryOnly
import HandS.Strs
import HandS.Wide
import HandS.Walk
import HandS.TupLe
import HandS.RevRange
import HandS.Conv
import HandS.TupAny
import HandS.Star
import HandS.SetFor
import HandS.Deep
import PyProof.FString2
import PyProof.FactsAll.NoneType_2
import PyProof.CallFns
import PySem.Challenge.RW_farstory_k04_whole_all_stamps_of_chains
set_option Elab.async false
set_option linter.all false
set_option maxRecDepth 100000
set_option maxHeartbeats 4000000
/-! Pure expressions and pure defs, whatever runs around them; all(f(x) for x in e). -/
namespace Pu
open PySem PySem.Spec PyProof.Rows L2

/-- what stands in g stands in h -/
abbrev Ext (g h : Heap) : Prop := ∀ b o, g.get? b = some o → h.get? b = some o
/-- from any heap over g the expression is worth v, and what stood stays -/
def EV (P : Program) (w : World) (A : Around) (env : Env) (g : Heap) (e : Expr) (v : V) : Prop :=
  ∀ (s : Shared) (Q : Value → Shared → Prop) (E : Value → Shared → Prop), Ext g s.heap →
    (∀ u h' tk, RelV v u → Ext s.heap h' → Q u { s with heap := h', toks := tk }) → wpAny (model P w) A (eval e env) Q E s
/-- arguments -/
def EA (P : Program) (w : World) (A : Around) (env : Env) (g : Heap) (es : List Expr) (vs : List V) : Prop :=
  ∀ (pos : Pos) (s : Shared) (Q : List Value → Shared → Prop) (E : Value → Shared → Prop), Ext g s.heap →
    (∀ us h' tk, Vals vs us → Ext s.heap h' → Q us { s with heap := h', toks := tk }) → wpAny (model P w) A (spliced (backTo pos (starEach es env))) Q E s
/-- a pure def: called with vs at a heap over g it gives v -/
structure PF (P : Program) (w : World) (K : PySem.W.Frag) (mg : Str → Option Value) (base : Heap) (k : Nat) (f : Addr) (fd : FuncData) (ps : List Str) (sp : List V → Heap → V → Prop) : Prop where
  run : ∀ (A : Around) (s : Shared) (args : Args) (us : List Value) (vs : List V) (v : V) (R : Result → Shared → Prop), Room k A → Ext base s.heap → BindsTo s fd args (ps.zip us) → Vals vs us → vs.length = ps.length → sp vs s.heap v →
    (∀ u h' tk, RelV v u → Ext s.heap h' → R (.ok (.ret u)) { s with heap := h', toks := tk }) → codeAny (model P w) A (.call (.ref f) args) R s

/-- the frame of a pure body -/
structure FrP (K : PySem.W.Frag) (mg : Str → Option Value) (base : Heap) (A : Around) (env : Env) (g : Heap) : Prop where
  mod : L2.Mod K mg base
  ext : Ext base g
  kind : env.scope.kind = .function
  glob : env.globals = mainGlobals
  blt : env.builtins = builtinsNs
  hd : A.handled = none

section
variable {P : Program} {w : World} {K : PySem.W.Frag} {mg : Str → Option Value} {base : Heap} {A : Around} {env : Env} {g : Heap}
theorem ev_loc {x : Str} {pos : Pos} {m : Str → Option Value} {u : Value} {v : V} (F : FrP K mg base A env g) (hl : env.kindOf x = some .local) (hn : g.Ns env.locals m) (hm : m x = some u) (r : RelV v u)
    (hd : (x == ("__debug__" : Str)) = false := by decide) : EV P w A env g (.Name x pos) v := fun s Q E hx hQ =>
  wpAny_Name (wpAny_loadName_local F.kind hl (hn.keeps hx) hm (hQ u s.heap s.toks r fun _ _ e => e)) hd
theorem ev_int {i : Int} {k : Nat} {pos : Pos} : EV P w A env g (.Constant (.int i) k pos) (.int i) := fun s Q E hx hQ =>
  wpAny_Constant_int (hQ _ s.heap (s.toks + 1) ⟨_, rfl⟩ fun _ _ e => e)
theorem ev_blt {x : Str} {pos : Pos} {u : Value} {v : V} (F : FrP K mg base A env g) (hg : env.kindOf x = some .globalImplicit) (hm : mg x = none) (hv : bootBuiltins x = some u) (r : RelV v u) (hn : x ≠ "__name__" := by decide)
    (hd : (x == ("__debug__" : Str)) = false := by decide) : EV P w A env g (.Name x pos) v := fun s Q E hx hQ => by
  obtain ⟨mb, h1, h2⟩ := F.mod.blt
  have hb : Ext base s.heap := fun b o e => hx b o (F.ext b o e)
  exact Calls.Name_function_global F.kind hg (Calls.loadGlobal_builtin (by rw [F.glob]; exact F.mod.glob.keeps hb) hm (by rw [F.blt]; exact h1.keeps hb) ((h2 x hn).trans hv) (hQ u s.heap s.toks r fun _ _ e => e)) hd
theorem ev_and {a b : Expr} {rest : List Expr} {pos : Pos} {x y : Bool} (ha : EV P w A env g a (.bl x)) (hb : x = true → EV P w A env g (.BoolOp .And (b :: rest) pos) (.bl y)) :
    EV P w A env g (.BoolOp .And (a :: b :: rest) pos) (.bl (x && y)) := fun s Q E hx hQ => by
  refine BoolOp_and (ha s _ E hx fun u h' tk r hk => ?_)
  cases (show u = Value.bool x from r)
  refine wpAny_truthy_bool ?_
  cases x with
  | false => exact hQ _ h' tk rfl hk
  | true => exact hb rfl { s with heap := h', toks := tk } Q E (fun b o e => hk b o (hx b o e)) fun u h2 t2 r2 k2 => hQ u h2 t2 r2 fun b o e => k2 b o (hk b o e)
theorem ev_one {op : BoolOp} {a : Expr} {pos : Pos} {v : V} (h : EV P w A env g a v) : EV P w A env g (.BoolOp op [a] pos) v := fun s Q E hx hQ => BoolOp_one (h s Q E hx hQ)
theorem ev_not {a : Expr} {pos : Pos} {x : Bool} (ha : EV P w A env g a (.bl x)) : EV P w A env g (.UnaryOp .Not a pos) (.bl (!x)) := fun s Q E hx hQ => by
  refine UnaryOp_ (ha s _ E hx fun u h' tk r hk => ?_)
  cases (show u = Value.bool x from r)
  exact not_of (wpAny_truthy_bool (hQ _ h' tk rfl hk))
theorem ev_ge {a b : Expr} {pos : Pos} {i j : Int} (ha : EV P w A env g a (.int i)) (hb : EV P w A env g b (.int j)) (hm : behindInMarks .GtE b = false := by first | exact nobehind _ (by decide) (by decide) | rfl) :
    EV P w A env g (.Compare a [.GtE] [b] pos) (.bl (decide (i ≥ j))) := fun s Q E hx hQ => by
  refine wpAny_Compare1 (ha s _ E hx fun u h' tk r hk => ?_) hm
  refine hb { s with heap := h', toks := tk } _ E (fun b o e => hk b o (hx b o e)) fun u2 h2 t2 r2 k2 => ?_
  obtain ⟨t, rfl⟩ := r
  obtain ⟨t', rfl⟩ := r2
  exact ge_int (hQ _ h2 t2 rfl fun b o e => k2 b o (hk b o e))
theorem ev_eqI {a b : Expr} {pos : Pos} {i j : Int} (ha : EV P w A env g a (.int i)) (hb : EV P w A env g b (.int j)) (hm : behindInMarks .Eq b = false := by first | exact nobehind _ (by decide) (by decide) | rfl) :
    EV P w A env g (.Compare a [.Eq] [b] pos) (.bl (decide (i = j))) := fun s Q E hx hQ => by
  refine wpAny_Compare1 (ha s _ E hx fun u h' tk r hk => ?_) hm
  refine hb { s with heap := h', toks := tk } _ E (fun b o e => hk b o (hx b o e)) fun u2 h2 t2 r2 k2 => ?_
  obtain ⟨t, rfl⟩ := r
  obtain ⟨t', rfl⟩ := r2
  exact eq_int (by rw [Bool.beq_eq_decide_eq]; exact hQ _ h2 t2 rfl fun b o e => k2 b o (hk b o e))
theorem ea_nil : EA P w A env g [] [] := fun pos s Q E hx hQ => Calls.spliced_nil (hQ [] s.heap s.toks .nil fun _ _ e => e)
theorem ea_cons {e : Expr} {es : List Expr} {v : V} {vs : List V} (ha : EV P w A env g e v) (hr : EA P w A env g es vs) (hs : starEach (e :: es) env = (false, eval e env) :: starEach es env := by rfl) : EA P w A env g (e :: es) (v :: vs) := fun pos s Q E hx hQ => by
  rw [hs]
  show wpAny _ _ (spliced ((false, eval e env) :: backTo pos (starEach es env))) _ _ s
  refine Calls.spliced_cons (ha s _ E hx fun u h' tk r hk => ?_)
  exact hr pos { s with heap := h', toks := tk } _ E (fun b o e => hk b o (hx b o e)) fun us h2 t2 r2 k2 => hQ (u :: us) h2 t2 (.cons r r2) fun b o e => k2 b o (hk b o e)
/-- a built-in by its name -/
theorem ev_bltcall {id : String} {x : Str} {p pos : Pos} {e : Expr} {es : List Expr} {vs : List V} {z : V} (F : FrP K mg base A env g) (hg : env.kindOf x = some .globalImplicit) (hm : mg x = none) (hv : bootBuiltins x = some (.builtin id))
    (ha : EA P w A env g (e :: es) vs)
    (hc : ∀ (s : Shared) (us : List Value) (Q : Value → Shared → Prop) (E : Value → Shared → Prop), Ext g s.heap → Vals vs us → (∀ u h' tk, RelV z u → Ext s.heap h' → Q u { s with heap := h', toks := tk }) → wpAny (model P w) A (call (.builtin id) us) Q E s)
    (hn : x ≠ "__name__" := by decide) (hd : (x == ("__debug__" : Str)) = false := by decide)
    (he : starEach (e :: es) env = (false, eval e env) :: starEach es env := by rfl) (hpl : (backTo pos (starEach es env)).any (·.1) = false := by rfl) : EV P w A env g (.Call (.Name x p) (e :: es) [] pos) z := fun s Q E hx hQ => by
  obtain ⟨mb, h1, h2⟩ := F.mod.blt
  have hb : Ext base s.heap := fun b o e => hx b o (F.ext b o e)
  refine wpAny_Call_Name_kw (Calls.Name_function_global F.kind hg (Calls.loadGlobal_builtin (by rw [F.glob]; exact F.mod.glob.keeps hb) hm (by rw [F.blt]; exact h1.keeps hb) ((h2 x hn).trans hv) ?_) hd)
  refine PyProof.Rows.callWith_builtin1 (ha pos s _ E hx fun us h' tk r hk => ?_) he hpl
  exact hc { s with heap := h', toks := tk } us Q E (fun b o e => hk b o (hx b o e)) r fun u h2 t2 r2 k2 => hQ u h2 t2 r2 fun b o e => k2 b o (hk b o e)
/-- a pure def by its name -/
theorem ev_pf {k : Nat} {f : Addr} {fd : FuncData} {ps : List Str} {sp : List V → Heap → V → Prop} {x : Str} {p pos : Pos} {e : Expr} {es : List Expr} {vs : List V} {z : V} (F : FrP K mg base A env g) (G : PF P w K mg base k f fd ps sp) (hr : Room k A)
    (hg : env.kindOf x = some .globalImplicit) (hm : mg x = some (.ref f)) (hk : PySem.W.keepIn K (.ref f) = true) (hb : Binds K fd ps []) (ha : EA P w A env g (e :: es) vs) (hl : vs.length = ps.length)
    (hsp : ∀ h, Ext g h → sp vs h z) (hd : (x == ("__debug__" : Str)) = false := by decide)
    (he : starEach (e :: es) env = (false, eval e env) :: starEach es env := by rfl) (hpl : (backTo pos (starEach es env)).any (·.1) = false := by rfl) : EV P w A env g (.Call (.Name x p) (e :: es) [] pos) z := fun s Q E hx hQ => by
  have hbs : Ext base s.heap := fun b o e => hx b o (F.ext b o e)
  refine wpAny_Call_Name_kw (Calls.Name_function_global F.kind hg (Calls.loadGlobal_global (by rw [F.glob]; exact F.mod.glob.keeps hbs) hm ?_) hd)
  refine PySem.W.callWith_K (h₀ := base) F.mod.kin hk (ha pos s _ E hx fun us h' tk r hk2 => ?_) he hpl
  have hx2 : Ext g h' := fun b o e => hk2 b o (hx b o e)
  have hb2 : Ext base h' := fun b o e => hx2 b o (F.ext b o e)
  refine ⟨F.mod.kin.keeps hb2, ?_⟩
  show wpAny _ _ (call (.ref f) us) _ _ _
  have hlu : (us ++ []).length = ps.length := by rw [List.append_nil, ← r.length]; exact hl
  have hbind := hb { s with heap := h', toks := tk } us (F.mod.kin.keeps hb2) hlu
  rw [List.append_nil] at hbind
  refine wpAny_call (codeAny_mono (G.run A { s with heap := h', toks := tk } ⟨us, []⟩ us vs z (fun r s' => ∃ u h2 t2, r = .ok (.ret u) ∧ RelV z u ∧ Ext h' h2 ∧ s' = { s with heap := h2, toks := t2 }) hr hb2 hbind r hl (hsp h' hx2) fun u h2 t2 r2 k2 => ⟨u, h2, t2, rfl, r2, k2, rfl⟩) fun r s' hq => ?_)
  obtain ⟨u, h2, t2, rfl, r2, k2, rfl⟩ := hq
  exact hQ u h2 t2 r2 fun b o e => k2 b o (hk2 b o e)
/-- a pure def of the text: its body is one return -/
theorem pf_ret {x qual : Str} {st : Stmt} {f : Addr} {fd : FuncData} {N ps : List Str} {k : Nat} {sp : List V → Heap → V → Prop} {e : Expr} {pos : Pos} (M : L2.Mod K mg base) (Fn : Fun K x qual st f fd) (S : FnScope N ps (defScope st)) (hst : defBody st = [.Return (some e) pos])
    (hloc : ∀ y ∈ ps, (defScope st).names.lookup y = some .local)
    (hbody : ∀ (cdv : Value) (A : Around) (L : Addr) (g : Heap) (us : List Value) (vs : List V) (v : V), Room k A → Ext base g → Vals vs us → vs.length = ps.length → sp vs g v →
      (∀ (i : Nat) (y : Str) (u : Value), ps[i]? = some y → us[i]? = some u → ∃ m, g.Ns (envOfC qual (defScope st) L f cdv).locals m ∧ m y = some u) → EV P w A (envOfC qual (defScope st) L f cdv) g e v)
    (hmono : ∀ vs g h v, Ext g h → sp vs g v → sp vs h v) : PF P w K mg base (k + 1) f fd ps sp := by
  obtain ⟨oc, od, kV, doc, pm, an, cdv, ct, osl, rfl, lk, hcd⟩ := Fn.ex
  refine ⟨fun A s args us vs v R hr hbs hb r hl hsp hR => ?_⟩
  have KX : K.In s.heap := M.kin.keeps hbs
  have lim : s.heap.NoLimit := M.nolimit.keeps hbs
  have ndP : ps.Nodup := by rw [← S.pre]; exact S.nd.sublist (List.take_sublist _ _)
  refine codeAny_call_function hr.depth (KX _ _ lk) rfl S.co S.gen rfl (PySem.W.codeRec_of KX hcd) (hb _ _ _ _ ?_)
  refine wpAny_newFunctionEnv_cells S.kind (fun ⟨n, z⟩ hy => .inl (hloc n (List.of_mem_zip hy).1)) fun env he s1 X => ?_
  subst he
  obtain ⟨h1, tk, e1, hk1⟩ := X.done
  refine ⟨lim.keeps X.toInCall.keep, codeAny_func ?_⟩
  rw [hst]
  refine wpAny_execs_cons (wpAny_Return_some ?_)
  have hns := X.toInCall.ns
  subst e1
  refine hbody cdv _ s.heap.objs.size h1 us vs v (hr.deeper _) (fun b o e => hk1 b o (hbs b o e)) r hl (hmono _ _ _ _ hk1 hsp) (fun i y u h2 h3 => ⟨_, hns, bindL_get ndP h2 h3 (hloc y (List.mem_of_getElem? h2))⟩) _ _ _ (fun _ _ e => e) fun u h' t' rv k' => ?_
  exact hR u h' t' rv fun b o e => k' b o (hk1 b o e)
end
end Pu
set_option Elab.async false
set_option linter.all false
set_option maxRecDepth 100000
set_option maxHeartbeats 4000000
/-! all(f(x) for x in e), e a tuple or a list, f(x) pure. -/
namespace Pu
open PySem PySem.Spec PyProof.Rows L2 GxR

section
variable {X : Cx} {pins : List (Addr × Obj)} {σ : L2.St} {H : Hp} {s : Shared}
/-- the walk of a tuple or a list, its iterator just made -/
theorem iter_any {A : Around} {a : Addr} {xs : List V} {Q : Value → Shared → Prop} {E : Value → Shared → Prop} (I : Inv X pins σ H s) (hq : SqT X.K H a xs ∨ SqL X.K H a xs)
    (hQ : ∀ (o : Obj) (its : List Value) (St : Nat → Heap → Prop), Vals xs its → a < s.heap.objs.size →
      (∀ B : Around, B.handled = none → Walks X.prog X.w B s.heap.objs.size [s.heap.objs.size, a] [s.heap.objs.size] its.toArray.size (fun i v => its.toArray[i]? = some v) St) →
      St 0 (s.heap.push o) → Q (.ref s.heap.objs.size) { s with heap := s.heap.push o }) : wpAny (model X.prog X.w) A (pyIter (.ref a)) Q E s := by
  rcases hq with hq | hq
  · obtain ⟨its, rv, p, hz⟩ := I.tuple hq
    have lt : a < s.heap.objs.size := p.lt
    have hne : a ≠ s.heap.objs.size := Nat.ne_of_lt lt
    refine wpAny_pyIter_tuple (show s.heap.IsTuple a its.toArray from p) ?_
    refine hQ _ its _ rv lt (fun B hB => Walks.tuple hB s.heap.objs.size a hne its.toArray) ⟨⟨_, Heap.get?_push_size _ rfl, rfl, rfl⟩, ?_⟩
    obtain ⟨o, ho, r⟩ := p
    exact ⟨o, Heap.get?_push_of_some _ ho, r⟩
  · obtain ⟨its, rv, p, hz⟩ := I.list hq
    obtain ⟨o1, n1, ho1, _⟩ := id p
    have lt : a < s.heap.objs.size := Heap.lt_size ho1
    have hne : a ≠ s.heap.objs.size := Nat.ne_of_lt lt
    refine wpAny_pyIter_list p.isList ?_
    refine hQ _ its _ rv lt (fun B hB => Walks.list hB s.heap.objs.size a hne its.toArray) ⟨⟨_, Heap.get?_push_size _ rfl, rfl, rfl⟩, ?_⟩
    exact (p.keeps fun b o e => Heap.get?_push_of_some _ e).isList

/-- the element's worth, item by item, from any frame of the generator -/
def Elt (X : Cx) (T : Addr) (sc : Scope) (x : Str) (elt : Expr) (k : Nat) (H1 : Hp) (xs : List V) (pb : Nat → Bool) : Prop :=
  ∀ (B : Around) (cenv : Env) (g : Heap) (i : Nat) (v : V) (u : Value), Room k B → cenv.scope = sc → cenv.globals = mainGlobals → cenv.builtins = builtinsNs → Ext X.base g →
    (∃ m, g.Ns cenv.locals m ∧ m x = some u) → xs[i]? = some v → RelV v u → (∀ b ho, b ≠ T → H1 b = some ho → ObjOk X.prog X.w H1 g b ho) → EV X.prog X.w B cenv g elt (.bl (pb i))
/-- a generator that is ready to be drawn from, n tests -/
def Drawn (X : Cx) (pins : List (Addr × Obj)) (σ : L2.St) (H1 : Hp) (T : Addr) (n : Nat) (pb : Nat → Bool) (g : Addr) (s5 : Shared) : Prop :=
  ∃ (fp wr : List Addr) (G : Array GenState → Array GenState → Prop) (F : Nat → Value → Prop) (St : Nat → Shared → Prop),
    WalksS X.prog X.w X.A.in1 g fp wr G n F St ∧ St 0 s5 ∧ TruthOf X.prog X.w X.A.in1 F pb ∧ ∀ s', Moved wr G s5 s' → ∃ H2, Tabbed T H1 H2 ∧ Inv X pins σ H2 s'

/-- the generator's code object, met already or made now: what is known of the heap behind it -/
theorem code_any {M : Model} {A : Around} {E : Value → Shared → Prop} {s : Shared} {env : Env} {c T : Addr} {ps : Array Value} {pos : Pos} {nm : Str} {sc : Scope} {Q : Value → Shared → Prop}
    (hc : env.code = .ref c) (hi : s.heap.IsCode c T ps) (ht : s.heap.TableAt c T ps) (ok : TriplesOk ps.toList) (hT : s.heap.get? T = some { cls := .none, data := .fields ps })
    (k : ∀ (code : Value) (h3 : Heap) (tk : Nat) (ps' : Array Value), Heap.ExtBut T s.heap h3 → s.heap.objs.size ≤ h3.objs.size → h3.get? T = some { cls := .none, data := .fields ps' } → (∃ more, ps' = ps ++ more) → TriplesOk ps'.toList →
      Q code { s with heap := h3, toks := tk }) : wpAny M A (genexprCode env pos nm sc) Q E s := by
  cases e : codeAmong pos ps.toList with
  | some old => exact wpAny_genexprCode_hit hc hi e (k old s.heap s.toks ps (Heap.ExtBut.refl _ _) (Nat.le_refl _) hT ⟨#[], by simp⟩ ok)
  | none =>
    refine wpAny_genexprCodeX hc hi ht e fun new h3 tk far lo hi' code' _ tab' _ => ?_
    have tr := code'
    obtain ⟨_, _, _, _, _, _, _, _, _, _, _, _, _, _, _, _, _, _, _, tr, _⟩ := tr
    exact k _ h3 tk _ far (by omega) tab'.2 ⟨_, rfl⟩ tr
theorem gen_seq {c T : Addr} {elt iter : Expr} {x : Str} {px gp : Pos} {sc : Scope} {te : TE} {k : Nat} {W : Value → Shared → Prop} {R : Hp → List V → (Nat → Bool) → Prop}
    (hr : Room (k + 1) X.A) (TB : TabB X.base X.mg c T) (hcode : X.env.code = .ref c) (S : GenS X.env sc x) (hi : PE X iter te) (hs : ∀ v, genFold iter X.env v = pure v) (I : Inv X pins σ H s)
    (h : te σ H fun v H1 => ∃ (a : Addr) (xs : List V) (pb : Nat → Bool), v = .ref a ∧ (SqT X.K H1 a xs ∨ SqL X.K H1 a xs) ∧ TabG H1 T ∧ Elt X T sc x elt k H1 xs pb ∧ R H1 xs pb)
    (hQ : ∀ H1 xs pb g s5, R H1 xs pb → Drawn X pins σ H1 T xs.length pb g s5 → W (.ref g) s5) :
    wpAny (model X.prog X.w) X.A (eval (.GeneratorExp elt [⟨.Name x px, iter, [], 0⟩] sc gp) X.env) W X.xe s := by
  refine wpAny_GeneratorExp_walksQD hr.hd S.co (closure_ok S.free) S.cell S.dot S.loc S.kind (by have := hr.dp; omega) ?_ hs
  refine thn (hi.run pins s σ H _ I h) fun xv s1 ⟨v, H1, I1, r1, q1⟩ => ?_
  obtain ⟨a, xs, pb, rfl, hsq, ⟨ps, hT, ht⟩, hel, hR⟩ := q1
  cases (show xv = Value.ref a from r1)
  refine iter_any I1 hsq fun o its St rv haLt Wk hst => ?_
  have hTs : s1.heap.get? T = some { cls := .none, data := .fields ps } := I1.hok T _ hT
  have hTlt : T < s1.heap.objs.size := Heap.lt_size hTs
  have hT2 : (s1.heap.push o).get? T = some { cls := .none, data := .fields ps } := Heap.get?_push_of_some _ hTs
  have push_keep : ∀ b u, s1.heap.get? b = some u → (s1.heap.push o).get? b = some u := fun b u e => Heap.get?_push_of_some _ e
  have cd : PySem.W.CodeHd (s1.heap.push o) c T := TB.code.keeps fun b u e => push_keep b u (I1.bk b u e)
  have lim2 : (s1.heap.push o).NoLimit := I1.nolimit.push o
  have noT : ∀ b u, X.base.get? b = some u → b ≠ T := fun b u e z => by
    have n := (I1.bs b u e).2
    rw [z, hT] at n
    cases n
  have hlen : its.toArray.size = xs.length := by rw [List.size_toArray, rv.length]
  refine ⟨lim2, code_any hcode (cd.code hT2 ht) (cd.tab hT2) ht hT2 fun code h3 tk ps' hx hsz hT3 hmore ht3 => ?_⟩
  obtain ⟨bm, ob, e1, e2, e3, e4, e5, e6, e7, e8⟩ := TB.bm
  have cneT : cStatics ≠ T := fun e => by
    obtain ⟨_, hns, _⟩ := I1.nolimit
    obtain ⟨o', es, ep, ho, hd, _⟩ := hns
    rw [e, hTs] at ho
    cases ho
    cases hd
  have cLt : cStatics < s1.heap.objs.size := let ⟨_, hns, _⟩ := I1.nolimit; hns.lt
  have sz2 : (s1.heap.push o).objs.size = s1.heap.objs.size + 1 := Heap.size_push ..
  have keep3 : ∀ b u, b ≠ T → s1.heap.get? b = some u → h3.get? b = some u := fun b u hb e => hx b u hb (push_keep b u e)
  refine wpAny_builtinsFor (m := X.mg) (by rw [I1.ok.glob]; exact ((I1.mod.glob.keeps I1.bk).push o).extBut hx TB.gP) e1 e2 (keep3 _ _ e4 (I1.bk _ _ e5)) e6 e7 e8 ?_
  have aneT : a ≠ T := fun z => by
    rcases hsq with q | q
    · rcases q with (q | ⟨_, q⟩) | ⟨_, _, _, hk, _⟩
      · rw [z, hT] at q; cases q
      · rw [z, hT] at q; cases q
      · exact noT a _ (I1.mod.kin a _ hk) z
    · rcases q with (q | ⟨_, q⟩) | ⟨_, _, _, hk, _⟩
      · rw [z, hT] at q; cases q
      · rw [z, hT] at q; cases q
      · exact noT a _ (I1.mod.kin a _ hk) z
  have sLt : s1.heap.objs.size < h3.objs.size := Nat.lt_of_lt_of_le (by rw [sz2]; exact Nat.lt_succ_self _) hsz
  have Wk2 : ∀ B : Around, B.handled = none → Walks X.prog X.w B s1.heap.objs.size [s1.heap.objs.size, a] [s1.heap.objs.size] xs.length (fun i v => its.toArray[i]? = some v) St := hlen ▸ Wk
  refine ⟨s1.heap.objs.size, [s1.heap.objs.size, a], [s1.heap.objs.size], xs.length, (fun i v => its.toArray[i]? = some v), St, (fun _ => true), (fun i y => y = .bool (pb i)), rfl, Wk2, ?_, ?_, lim2.extBut hx cneT, ?_, ?_, ?_⟩
  · refine (Wk2 X.A hr.hd).frame _ _ _ hst fun b hb u e => hx b u (fun z => ?_) e
    rcases List.mem_cons.mp hb with z2 | z2
    · exact Nat.ne_of_lt hTlt (z.symm.trans z2)
    · rcases List.mem_cons.mp z2 with z2 | z2
      · exact aneT (z2.symm.trans z)
      · cases z2
  · intro b hb
    show b < h3.objs.size
    rcases List.mem_cons.mp hb with z | z
    · rw [z]; exact sLt
    · rcases List.mem_cons.mp z with z | z
      · rw [z]; exact Nat.lt_trans haLt sLt
      · cases z
  · intro z
    rcases List.mem_cons.mp z with z | z
    · exact Nat.ne_of_lt cLt z
    · cases z
  · intro href hhref
    refine ⟨fun A' E' i v s₂ m₂ hA hD hU hPv hn hm hk => ?_, fun A' E' i v s₂ m₂ hA hD hU hPv hp hn hm hk => ?_⟩
    · simp only [List.forIn_nil]
      exact wpAny_pure ⟨rfl, keeps_refl _⟩
    · have hv2 : its[i]? = some v := by simpa using hPv
      have hi2 : i < xs.length := by
        have := (List.getElem?_eq_some_iff.mp hv2).1
        rw [rv.length]; exact this
      obtain ⟨u, hu, ru⟩ := rv.get (List.getElem?_eq_getElem hi2)
      have euv : u = v := Option.some.inj (hu.symm.trans hv2)
      subst euv
      have ob2 : ∀ b w', b ≠ T → s1.heap.get? b = some w' → s₂.heap.get? b = some w' := fun b w' hb e => by
        have l1 := Heap.lt_size e
        have e3 := keep3 b w' hb e
        refine hk b (List.mem_range.mpr (Heap.lt_size e3)) (fun z => ?_) _ (hhref _ _ e3)
        rcases List.mem_cons.mp z with z | z
        · exact Nat.ne_of_lt l1 z
        · cases z
      have rm : Room k A' := ⟨hA, by have := hr.dp; omega, by have := hr.un; omega⟩
      refine hel A' (genEnv sc (cloFrom X.env.cells sc.names []) h3.objs.size code builtinsNs X.env) s₂.heap i _ u rm rfl I1.ok.glob rfl (fun b w' e => ob2 b w' (noT b w' e) (I1.bk b w' e)) ⟨m₂, hn, hm⟩ (List.getElem?_eq_getElem hi2) ru (fun b ho hb e => ?_) s₂ _ _ (fun _ _ e => e) fun y h' tk' ry hk' => ?_
      · refine (I1.hok b ho e).stay (fun d w' hd q => ob2 d w' ?_ q) (fun _ q => q) fun _ _ q => q
        rcases hd with z | z
        · rw [z]; exact hb
        · intro z2
          rw [z2, hT] at z
          cases z
      · exact ⟨ry, h', tk', rfl, hk'⟩
  · intro g h5 tk5 gs hgb hag hsz5 hk5 W5 hat
    simp only [GxR.passing_true, List.length_range] at W5
    refine hQ H1 xs pb g _ hR ⟨_, _, _, _, _, W5.in4_1, hat, ?_, fun s' hm => ?_⟩
    · intro j y sj Qj Ej hy hQj
      obtain ⟨i, hij, rfl⟩ := hy
      obtain ⟨hj, ej⟩ := List.getElem?_eq_some_iff.mp hij
      rw [List.getElem_range] at ej
      subst ej
      exact wpAny_truthy_bool hQj
    · obtain ⟨more, em⟩ := hmore
      have nwr : ∀ b u, s1.heap.get? b = some u → b ∉ h3.objs.size :: [s1.heap.objs.size] := fun b u e hb => by
        have hl := Heap.lt_size e
        rcases List.mem_cons.mp hb with z | z
        · have h9 : b = h3.objs.size := z
          have : b < s1.heap.objs.size := hl
          rw [h9] at this
          have h10 : h3.objs.size < s1.heap.objs.size := this
          omega
        · rcases List.mem_cons.mp z with z | z
          · rw [z] at hl
            exact Nat.lt_irrefl _ hl
          · cases z
      have J := inv_tab (more := more) (h' := s'.heap) (g' := s'.gens) (d' := s'.drawn) (t' := s'.toks) I1 hT (fun b u hb e => hm.heap b u (nwr b u e) (hk5 b u (keep3 b u hb e)))
        (by rw [← em]; exact hm.heap T _ (nwr T _ hTs) (hk5 T _ hT3)) (AllBare.movedS (I1.bare.push hgb) hm)
      rw [sh_eta s1 s' hm.os] at J
      exact ⟨upd H1 T (.tbl (ps ++ more)), ⟨⟨ps ++ more, upd_same, by rw [← em]; exact ht3⟩, fun b hb => upd_ne hb⟩, J⟩

/-- all(test for x in e): the reading -/
def tAllQ (X : Cx) (T : Addr) (sc : Scope) (x : Str) (elt : Expr) (k : Nat) (te : TE) : TE := fun σ H Q => te σ H fun v H1 => ∃ (a : Addr) (xs : List V) (pb : Nat → Bool),
  v = .ref a ∧ (SqT X.K H1 a xs ∨ SqL X.K H1 a xs) ∧ TabG H1 T ∧ Elt X T sc x elt k H1 xs pb ∧ ∀ H2, Tabbed T H1 H2 → Q (.bl ((List.range xs.length).all pb)) H2
theorem pe_allQ {c T : Addr} {elt iter : Expr} {x : Str} {px p pos gp : Pos} {sc : Scope} {te : TE} {k : Nat} (hr : Room (k + 1) X.A) (hg : Gl X "all") (hm : X.mg "all" = none) (TB : TabB X.base X.mg c T) (hcode : X.env.code = .ref c)
    (S : GenS X.env sc x) (hi : PE X iter te) (hb : bootBuiltins "all" = some (.builtin "all") := by decide +kernel) (hs : ∀ v, genFold iter X.env v = pure v := by intro _; rfl)
    (he : starEach [.GeneratorExp elt [⟨.Name x px, iter, [], 0⟩] sc gp] X.env = (false, eval (.GeneratorExp elt [⟨.Name x px, iter, [], 0⟩] sc gp) X.env) :: starEach [] X.env := by rfl) :
    PE X (.Call (.Name "all" p) [.GeneratorExp elt [⟨.Name x px, iter, [], 0⟩] sc gp] [] pos) (tAllQ X T sc x elt k te) := by
  refine ⟨fun pins s σ H Q I h => wpAny_Call_Name_kw (ld_blt I hg hm hb (PyProof.Rows.callWith_builtin1 ?_ he (by rfl)))⟩
  rw [he]
  show wpAny _ _ (spliced ((false, eval (.GeneratorExp elt [⟨.Name x px, iter, [], 0⟩] sc gp) X.env) :: backTo pos (starEach [] X.env))) _ _ s
  refine Calls.spliced_cons (gen_seq (R := fun H1 xs pb => ∀ H2, Tabbed T H1 H2 → Q (.bl ((List.range xs.length).all pb)) H2) hr TB hcode S hi hs I h fun H1 xs pb g s5 hR hG => ?_)
  obtain ⟨fp, wr, G, F, St, Wk, hst, htr, hI⟩ := hG
  refine Calls.spliced_nil (call_all_walkS (Wk.self 0 _ _ _ hst ⟨g, fp, wr, G, _, F, St, _, rfl, Wk, hst, htr, fun s' hmv => ?_⟩))
  obtain ⟨H2, hT, J⟩ := hI s' hmv
  exact ⟨.bl _, H2, J, rfl, hR H2 hT⟩
end
end Pu
set_option Elab.async false
set_option linter.all false
set_option maxRecDepth 100000
set_option maxHeartbeats 4000000
/-! repr of data; a law's end where repr is asked. -/
namespace Pu
open PySem PySem.Spec PyProof.Rows L2 GxR

/-- the list or tuple d, shown -/
def rRepr (K : PySem.W.Frag) : List V → Hp → VK → Prop := fun vs H Q => ∃ (v : V) (d : PyData), vs = [v] ∧ Dp K H v d ∧ isDisplay d = true ∧ d.showable = true ∧ d.hasDict = false ∧ d.depth ≤ 60 ∧ d.shown.length ≤ sizeLine ∧ Q (.str d.shown) H
theorem cr_repr {X : Cx} (hu : X.A.units + 64 < cLine) (hg : X.A.guards = some []) : CallR X (.builtin "repr") (rRepr X.K) := by
  intro pins s σ H vs us Q I r h
  obtain ⟨v, d, rfl, hd, hi, hs, hn, hz, hl, q⟩ := h
  obtain ⟨u, rfl, rv⟩ := vals1 r
  obtain ⟨as, rd⟩ := Dp.reads I d v u hd rv
  obtain ⟨a, rfl⟩ := isRef_of_reads rd hi
  exact repr_of_reads' rd hs (PyData.noDict_hsm hn) hg (by omega) (fun _ _ e => e) (fun h' t tk hk => ⟨.str d.shown, H, I.kept hk, ⟨t, rfl⟩, q⟩) hl

/-- a def of the text whose code object is known -/
structure FunC (K : PySem.W.Frag) (x qual : Str) (st : Stmt) (f : Addr) (fd : FuncData) (c : Addr) : Prop where
  ex : ∃ (oc : Value) (od : Option Addr) (kV doc pm : Value) (an : Option Addr) (ct : Value) (osl : Array (Option Value)),
    fd = PySem.W.fnOf x qual (defArgs st) (defBody st) (defScope st) .none kV doc pm an (.ref c) ct ∧ K.lookup f = some ⟨oc, od, .func fd, osl⟩ ∧ PySem.W.codeIn K (.ref c) qual = true
  kp : PySem.W.keepIn K (.ref f) = true
theorem FunC.ok {P : Program} {w : World} {K : PySem.W.Frag} {mg : Str → Option Value} {base : Heap} {x qual : Str} {st : Stmt} {f c : Addr} {fd : FuncData} {N ps : List Str} {k : Nat} {sp : Sp} (F : FunC K x qual st f fd c) (S : FnScope N ps (defScope st))
    (len : ∀ vs H Q E, sp vs H Q E → vs.length = ps.length)
    (hbody : ∀ (A : Around) (outer : List Env) (s : Shared) (H : Hp) (vs : List V) (Q : VK) (E : XK), Room k (A.deeper (envOfC qual (defScope st) s.heap.objs.size f (.ref c))) → sp vs H Q E →
      ∃ t, PSs (cxOf CX0 P w K mg base N qual (defScope st) f (.ref c) A outer s H E).nox (defBody st) t ∧ t { nx := fun _ H' => Q .non H', rt := Q } (start N vs) H) : FnOk P w K mg base CX0 (k + 1) f fd ps sp := by
  obtain ⟨oc, od, kV, doc, pm, an, ct, osl, rfl, lk, hcd⟩ := F.ex
  refine fn_of lk hcd S len fun A outer s H vs Q E hr hsp => ?_
  obtain ⟨t, h, q⟩ := hbody A outer s H vs Q E hr hsp
  exact ⟨t, h.nox, q⟩
theorem FunC.fn {K : PySem.W.Frag} {x qual : Str} {st : Stmt} {f c : Addr} {fd : FuncData} (F : FunC K x qual st f fd c) : Fun K x qual st f fd := by
  obtain ⟨oc, od, kV, doc, pm, an, ct, osl, e, lk, hcd⟩ := F.ex
  exact ⟨⟨oc, od, kV, doc, pm, an, .ref c, ct, osl, e, lk, hcd⟩, F.kp⟩

section
variable {P : Program} {w : World} {K : PySem.W.Frag} {mg mb : Str → Option Value} {fa a : Addr} {cs : List (Addr × Addr)} {fd : FuncData} {N : List Str} {x : Str} {st : Stmt} {s₁ : Shared} {vs : List Value} {ns : List Int}
/-- what a law's body is asked: from any base and state, at the caller that the claim names -/
def BodyOk (P : Program) (w : World) (K : PySem.W.Frag) (mg : Str → Option Value) (cs : List (Addr × Addr)) (N : List Str) (st : Stmt) (fa a : Addr) (ns : List Int) : Prop :=
  ∀ (base : Heap) (cdv : Value) (s : Shared) (H : Hp), L2.Mod K mg base → (∀ p ∈ cs, TabB base mg p.1 p.2) → (∀ p ∈ cs, H p.2 = some (.tbl #[])) → SqL K H a (ns.map V.int) →
    ∃ t, PSs (cxOf CX0 P w K mg base N "law" (defScope st) fa cdv callerA [] s H E0).nox (defBody st) t ∧ t { nx := fun _ _ => False, rt := fun v _ => v = .bl true } (start N [.ref a]) H
/-- from a heap that is told by H -/
theorem law_from {H : Hp} (Fn : Fun K "law" "law" st fa fd) (S : FnScope N [x] (defScope st)) (hbind : ∀ (s : Shared) (u : Value), BindsTo s fd ⟨[u], []⟩ [(x, u)]) (hr : Room 9 callerA)
    (B : BodyOk P w K mg cs N st fa a ns) (base : Heap) (M : L2.Mod K mg base) (hT : ∀ p ∈ cs, TabB base mg p.1 p.2) (hH : ∀ p ∈ cs, H p.2 = some (.tbl #[])) (hS : SqL K H a (ns.map V.int))
    (e0 : Env0 P w K mg base callerA [] s₁ H) :
    codeAny (model P w) callerA (.call (.ref fa) ⟨[.ref a], []⟩) (fun r s' => ∃ H', r = .ok (.ret (.bool true)) ∧ s'.os = s₁.os ∧ AllBare s'.gens ∧ Un [] [] H H' s₁.heap s'.heap ∧ HOk P w H' s'.heap) s₁ := by
  obtain ⟨oc, od, kV, doc, pm, an, cdv, ct, osl, rfl, lk, hcd⟩ := Fn.ex
  obtain ⟨t, ht, hq⟩ := B base cdv s₁ H M hT hH hS
  have KX : K.In s₁.heap := M.kin.keeps fun b o e => (e0.bs b o e).1
  have lim : s₁.heap.NoLimit := M.nolimit.keeps fun b o e => (e0.bs b o e).1
  have kinds : ∀ y ∈ [x].zip [Value.ref a], (defScope st).names.lookup y.1 = some .local ∨ ((defScope st).names.lookup y.1 = some .cell ∧ ((cellsFrom (s₁.heap.objs.size + 1) (defScope st).names []).lookup y.1).isSome = true) := fun ⟨n, v⟩ hy => by
    rcases S.par n (List.of_mem_zip hy).1 with q | q
    · exact .inl q
    · exact .inr ⟨q, PySem.W.cellsFrom_some _ _ _ (.inl q)⟩
  refine codeAny_call_function hr.depth (KX _ _ lk) rfl S.co S.gen rfl (PySem.W.codeRec_of KX hcd) (hbind s₁ (.ref a) _ _ _ _ ?_)
  refine wpAny_newFunctionEnv_cells S.kind kinds fun env he s1 X => ?_
  subst he
  refine ⟨lim.keeps X.toInCall.keep, codeAny_func ?_⟩
  have I : Inv (cxOf CX0 P w K mg base N "law" (defScope st) fa cdv callerA [] s₁ H E0) [] (start N [.ref a]) H s1 := inv_start (ps := [x]) (us := [.ref a]) S hr.hd e0 rfl (.cons rfl .nil) X
  refine wpAny_mono (ht.run [] s1 (start N [.ref a]) H _ (I.wish _) hq) (fun fl s' hs => ?_) fun e s' hs => hs.elim
  cases fl with
  | ret u =>
    obtain ⟨v, σ', H', J, rv, q⟩ := hs
    have q2 : v = .bl true := q
    subst q2
    obtain rfl : u = Value.bool true := rv
    exact ⟨H', rfl, J.os, J.bare, J.base, J.hok⟩
  | next =>
    obtain ⟨_, _, _, q⟩ := hs
    exact q.elim
  | brk =>
    obtain ⟨_, _, _, q⟩ := hs
    exact False.elim q
  | cont =>
    obtain ⟨_, _, _, q⟩ := hs
    exact False.elim q

/-- the law's call at the list a ends with True, and what was there is there still -/
abbrev SaysTrue (P : Program) (w : World) (fa a : Addr) (s : Shared) : Prop :=
  codeAny (model P w) callerA (.call (.ref fa) ⟨[.ref a], []⟩) (fun res t => res = .ok (.ret (.bool true)) ∧ OldK s.heap t.heap ∧ t.os = s.os ∧ AllBare t.gens) s
/-- code objects with their tables, all empty yet and none of K -/
def Bare (cs : List (Addr × Addr)) (K : PySem.W.Frag) (h : Heap) : Prop := ∀ p ∈ cs, (h.get? p.2 = some { cls := .none, data := .fields #[] } ∧ K.lookup p.2 = none) ∧ PySem.W.CodeHd h p.1 p.2
/-- the module of the builtins, where the main text finds it -/
def BltMod (mg : Str → Option Value) (h : Heap) : Prop := ∃ m : Addr, ∃ o : Obj, mg "__builtins__" = some (.ref m) ∧ m ≠ builtinsNs ∧ h.get? m = some o ∧ o.cls = .type "module" ∧ o.dict = some builtinsNs ∧ o.data = .plain
/-- the whole end: the heap as it stands behind the top -/
theorem law_end (KX : K.In s₁.heap) (hns : s₁.heap.Ns mainGlobals mg) (hb : s₁.heap.Ns builtinsNs mb) (hbb : ∀ x : Str, x ≠ "__name__" → mb x = bootBuiltins x) (hlim : s₁.heap.NoLimit) (hg : s₁.gens = #[])
    (hcs : Bare cs K s₁.heap) (hbm : BltMod mg s₁.heap)
    (ha : s₁.heap.get? a = some { cls := .type "list", data := .seq vs.toArray }) (hi : IntsAre vs ns) (hl : ns.length ≤ sizeLine)
    (Fn : Fun K "law" "law" st fa fd) (S : FnScope N [x] (defScope st)) (hbind : ∀ (s : Shared) (u : Value), BindsTo s fd ⟨[u], []⟩ [(x, u)]) (hr : Room 9 callerA) (B : BodyOk P w K mg cs N st fa a ns) :
    SaysTrue P w fa a s₁ := by
  have hT := fun p hp => (hcs p hp).1.1
  have nT := fun p hp => (hcs p hp).1.2
  have C := fun p hp => (hcs p hp).2
  -- the tables, the script
  let Ts := cs.map (·.2)
  have tab : ∀ b, b ∈ Ts → s₁.heap.get? b = some { cls := .none, data := .fields #[] } := fun b h => by
    obtain ⟨p, hp, rfl⟩ := List.mem_map.mp h
    exact hT p hp
  have inT : ∀ p ∈ cs, p.2 ∈ Ts := fun p hp => List.mem_map.mpr ⟨p, hp, rfl⟩
  have aNot : a ∉ Ts := fun z => by
    have q := (tab a z).symm.trans ha
    cases congrArg Obj.data (Option.some.inj q)
  have rv := vals_ints hi
  have frame : ∀ (u : Option HO), (u = none ∨ u = some (.frz { cls := .type "list", data := .seq vs.toArray } (.lst (ns.map V.int)))) → (u ≠ none → K.lookup a = none) →
      SqL K (fun b => if b = a then u else if b ∈ Ts then some (.tbl #[]) else none) a (ns.map V.int) →
      SaysTrue P w fa a s₁ := by
    intro u hu hKa hS
    generalize hHdef : (fun b => if b = a then u else if b ∈ Ts then some (HO.tbl #[]) else none : Hp) = H at hS
    have Ha : H a = u := by rw [← hHdef]; exact if_pos rfl
    have HT : ∀ b, b ∈ Ts → H b = some (.tbl #[]) := fun b h => by
      have nb : b ≠ a := fun z => aNot (z ▸ h)
      rw [← hHdef]
      exact (if_neg nb).trans (if_pos h)
    have HN : ∀ b, b ≠ a → b ∉ Ts → H b = none := fun b h1 h2 => by
      rw [← hHdef]
      exact (if_neg h1).trans (if_neg h2)
    have ok : HOk P w H s₁.heap := fun b o e => by
      by_cases h1 : b = a
      · subst h1
        rw [Ha] at e
        rcases hu with z | z
        · rw [z] at e; cases e
        · rw [z] at e
          cases e
          exact ⟨ha, by rw [List.length_map]; exact hl, vs, _, rv, ha⟩
      · by_cases h2 : b ∈ Ts
        · rw [HT b h2] at e
          cases e
          exact tab b h2
        · rw [HN b h1 h2] at e; cases e
    -- what is neither a list nor an empty table is not tracked
    have plain : ∀ {b : Addr} {o : Obj}, s₁.heap.get? b = some o → (∀ q n, o.data ≠ .seq q n) → o.data ≠ .fields #[] → H b = none := fun {b o} e h1 h2 => by
      refine HN b (fun z => ?_) fun z => ?_
      · rw [z, ha] at e
        cases e
        exact h1 _ _ rfl
      · rw [tab b z] at e
        cases e
        exact h2 rfl
    have dct : ∀ {b : Addr} {o : Obj} {es : Array DictEntry} {ep : Nat}, s₁.heap.get? b = some o → o.data = .dict es ep → H b = none := fun e d =>
      plain e (fun q n z => by rw [d] at z; cases z) fun z => by rw [d] at z; cases z
    have bg : ∀ {b : Addr} {o : Obj}, s₁.heap.get? b = some o → H b = none → (hidT s₁.heap H).get? b = some o := fun e n => hidT_get e n
    have nsB : ∀ {b : Addr} {m : Str → Option Value}, s₁.heap.Ns b m → (hidT s₁.heap H).Ns b m := fun ⟨o, es, ep, e, d, r⟩ => ⟨o, es, ep, bg e (dct e d), d, r⟩
    have KB : K.In (hidT s₁.heap H) := fun b o e => by
      refine bg (KX b o e) ?_
      by_cases h1 : b = a
      · rw [h1, Ha]
        rcases hu with z | z
        · exact z
        · have := hKa (by rw [z]; simp)
          rw [← h1, e] at this
          cases this
      · refine HN b h1 fun h2 => ?_
        obtain ⟨p, hp, ep⟩ := List.mem_map.mp h2
        rw [← ep, nT p hp] at e
        cases e
    have M : L2.Mod K mg (hidT s₁.heap H) := ⟨KB, nsB hns, ⟨mb, nsB hb, hbb⟩, let ⟨mc, h1, h2⟩ := hlim; ⟨mc, nsB h1, h2⟩⟩
    have TB : ∀ p ∈ cs, TabB (hidT s₁.heap H) mg p.1 p.2 := fun p hp => by
      have hTp := hT p hp
      refine ⟨?_, ?_, fun z => ?_⟩
      · obtain ⟨o, us, file, tf, flags, tg, inF, text, tt, e1, r1, r2, r3, r⟩ := C p hp
        refine ⟨o, us, file, tf, flags, tg, inF, text, tt, bg e1 (plain e1 (fun q n z => ?_) fun z => ?_), r1, r2, r3, r⟩
        · rw [r2] at z; cases z
        · rw [r2] at z
          cases z
          simp at r3
      · obtain ⟨bm, ob, b1, b2, b3, b4, b5, b6⟩ := hbm
        have nG : bm ≠ mainGlobals := fun q => by
          obtain ⟨o, es, ep, e, hd, _⟩ := hns
          rw [q, e] at b3
          cases b3
          rw [hd] at b6
          cases b6
        have nP : bm ≠ p.2 := fun q => by
          rw [q, hTp] at b3
          cases b3
          cases b6
        exact ⟨bm, ob, b1, b2, nG, nP, bg b3 (plain b3 (fun q n z => by rw [b6] at z; cases z) fun z => by rw [b6] at z; cases z), b4, b5, b6⟩
      · obtain ⟨o, es, ep, e, hd, _⟩ := hns
        rw [z, hTp] at e
        cases e
        cases hd
    have e0 : Env0 P w K mg (hidT s₁.heap H) callerA [] s₁ H :=
      ⟨rfl, M, fun b o e => of_hidT e, Nat.le_of_eq (hidT_size _ _), trivial, fun b hb => absurd (show b ∈ ([] : List Addr) from hb) List.not_mem_nil, ok, .of_eq hg⟩
    refine codeAny_mono (law_from Fn S hbind hr B _ M TB (fun p hp => HT _ (inT p hp)) hS e0) fun r s' h => ?_
    obtain ⟨H', rfl, os, bare, un, ok'⟩ := h
    have same : ∀ b o, b ∉ Ts → s₁.heap.get? b = some o → s'.heap.get? b = some o := fun b o nb e => by
      by_cases h1 : b = a
      · rcases hu with z | z
        · exact un.keep b o e (by rw [h1, Ha, z]) (by simp) (by simp)
        · have z1 : H a = some (.frz { cls := .type "list", data := .seq vs.toArray } (.lst (ns.map V.int))) := Ha.trans z
          obtain ⟨e2, _⟩ := ok' a _ (un.frzs a _ _ z1)
          rw [h1] at e ⊢
          rw [ha] at e
          cases e
          exact e2
      · exact un.keep b o e (HN b h1 nb) (by simp) (by simp)
    have grown : ∀ b, b ∈ Ts → ∃ more : Array Value, s'.heap.get? b = some { cls := .none, data := .fields more } := fun b h => by
      obtain ⟨more, z⟩ := un.tbls b #[] (HT b h)
      exact ⟨_, ok' b _ z⟩
    refine ⟨rfl, ⟨fun b o e => ?_, fun b o e => ?_⟩, os, bare⟩
    · by_cases h : b ∈ Ts
      · obtain ⟨more, hm⟩ := grown b h
        obtain ⟨p, hp, rfl⟩ := List.mem_map.mp h
        rw [hT p hp] at e
        cases e
        exact .inr (.inl ⟨((C p hp).tab (hT p hp)).isCodeTable, rfl, #[], more, rfl, by rw [Array.empty_append]; exact hm⟩)
      · exact .inl (same b o h e)
    · by_cases h : b ∈ Ts
      · obtain ⟨more, hm⟩ := grown b h
        exact ⟨_, hm⟩
      · exact ⟨o, same b o h e⟩
  cases hk : K.lookup a with
  | some o =>
    have e := KX a o hk
    rw [ha] at e
    cases e
    refine frame none (.inl rfl) (fun h => (h rfl).elim) (.inr ⟨_, vs.toArray, _, hk, rfl, rfl, rfl, ?_, by simpa using rv⟩)
    rw [List.size_toArray, hi.length]
    exact hl
  | none => exact frame _ (.inr rfl) (fun _ => hk) (.inl (.inr ⟨_, if_pos rfl⟩))
end
end Pu
set_option Elab.async false
set_option linter.all false
set_option maxRecDepth 100000
set_option maxHeartbeats 4000000
/-! enumerate of a tuple; for over either; calls by keywords alone; len(set(ints)). -/
namespace Pu
open PySem PySem.Spec PyProof.Rows L2 GxR

theorem meets_enum_tup (l : Addr) (items : Array Value) (n : Nat) (dct : Option Addr) (sl : Array (Option Value)) :
    Meets (Builtin.«enumerate.__new__» ⟨[.type "enumerate", .ref l], []⟩) (fun _ R s => s.heap.get? l = some { cls := .type "tuple", dict := dct, data := .seq items n, slots := sl } ∧
      R (.ok (.ret (.ref (s.heap.push { cls := .type "tuple_iterator", data := .fields #[.ref l, .int 0 0] }).objs.size)))
        { s with heap := (s.heap.push { cls := .type "tuple_iterator", data := .fields #[.ref l, .int 0 0] }).push { cls := .type "enumerate", data := .fields #[.none, .bool false, .ref s.heap.objs.size, rawInt 0, .none, .none] } }) :=
  .of_wp fun prog w A R s h => by
    obtain ⟨hp, g, d, tk, os⟩ := s
    obtain ⟨hl, h⟩ := h
    have sub := sub_enumerate
    have hL : Heap.IsTuple (Shared.heap ⟨hp, g, d, tk, os⟩) l items := ⟨_, hl, rfl, n, rfl⟩
    wp_walk using wpAny_loadPart' hl
    refine wpAny_stack_any fun st => wpAny_pure ?_
    split
    · rename_i c _ _ _ _ _
      cases (c == Value.type "enumerate")
      all_goals
        wp_walk using wpAny_loadPart' hl, wpAny_pyIter_tuple hL
        exact ⟨_, rfl, h⟩
    · wp_walk using wpAny_loadPart' hl, wpAny_pyIter_tuple hL
      exact ⟨_, rfl, h⟩

section
variable {prog : Program} {w : World} {A : Around} {E : Value → Shared → Prop} {s : Shared}
theorem call_enum_tup {t : Addr} {items : Array Value} {Q : Value → Shared → Prop} (hL : s.heap.IsTuple t items)
    (h : ∀ h', IsEnum h' (s.heap.objs.size + 1) s.heap.objs.size 0 .none → h'.IsTupleIter s.heap.objs.size t 0 → (∀ b o, s.heap.get? b = some o → h'.get? b = some o) → Q (.ref (s.heap.objs.size + 1)) { s with heap := h' }) :
    wpAny (model prog w) A (call (.type "enumerate") [.ref t]) Q E s := by
  obtain ⟨⟨c, dct, dt, sl⟩, hl, hc, n, hd⟩ := hL
  have hc2 : c = .type "tuple" := hc
  have hd2 : dt = .seq items n := hd
  subst hc2 hd2
  refine callType_new F.called_enumerate (by decide) (F.typeCall_enumerate_1 _) (F.newCall_enumerate_1 _) (fun obj => F.args_object_init_2 obj _) F.entry_enumerate_new (meets_enum_tup t items n dct sl) ⟨hl, ?_⟩
  have hz : (s.heap.push { cls := .type "tuple_iterator", data := .fields #[.ref t, .int 0 0] }).objs.size = s.heap.objs.size + 1 := Heap.size_push ..
  show _ ∧ _
  rw [hz]
  have he : IsEnum ((s.heap.push { cls := .type "tuple_iterator", data := .fields #[.ref t, .int 0 0] }).push
      { cls := .type "enumerate", data := .fields #[.none, .bool false, .ref s.heap.objs.size, rawInt 0, .none, .none] }) (s.heap.objs.size + 1) s.heap.objs.size 0 .none := by
    have q := Heap.get?_push_size (s.heap.push { cls := .type "tuple_iterator", data := .fields #[.ref t, .int 0 0] })
      (o := { cls := .type "enumerate", data := .fields #[.none, .bool false, .ref s.heap.objs.size, rawInt 0, .none, .none] }) rfl
    rw [hz] at q
    exact q
  exact ⟨⟨_, he, rfl⟩, h _ he ⟨_, Heap.get?_push_of_some _ (Heap.get?_push_size _ rfl), rfl, rfl⟩ fun b o x => Heap.get?_push_of_some _ (Heap.get?_push_of_some _ x)⟩
end
/-- the tuple at a as it stands at each turn, each item in a new pair -/
def Ite2 (K : PySem.W.Frag) (a : Addr) : It :=
  ⟨fun i H => ∃ (xs : List V) (x : V), SqT K H a xs ∧ xs[i]? = some x,
    fun i H v H' => ∃ T x, v = .ref T ∧ H T = none ∧ H' = upd H T (.tup [.int (i : Nat), x]) ∧ ∀ xs, SqT K H a xs → xs[i]? = some x,
    fun i H => ∃ xs : List V, SqT K H a xs ∧ xs.length = i⟩
theorem turn_enumT {P : Program} {w : World} {K : PySem.W.Frag} {elts : List Expr} {kk : Nat} {tpos : Pos} (a e it : Addr) (hat : a ≠ it) (hae : a ≠ e) :
    Turn P w K (.Tuple elts kk tpos) (Ite2 K a) [e, it] e (fun i h => (∃ old, IsEnum h e it ((i : Nat) : Int) old) ∧ h.IsTupleIter it a i ∧ e ≠ it) where
  mem := by simp
  obj := fun i h st b hb => by
    obtain ⟨⟨old, he⟩, ⟨o, ho, hc, hd⟩, _⟩ := st
    rcases List.mem_cons.mp hb with z | z
    · rw [z]
      exact ⟨_, he, fun v q => nomatch q⟩
    · rw [List.mem_singleton.mp z]
      exact ⟨o, ho, fun v q => by rw [hd] at q; cases q⟩
  keep := fun i h h' st k => by
    obtain ⟨⟨old, he⟩, hi, hne⟩ := st
    exact ⟨⟨old, k e (by simp) _ he⟩, hi.at fun o q => k it (by simp) o q, hne⟩
  item := by
    intro X hP hw hK hc i pins s σ H E I hf st hg
    subst hP hw hK
    obtain ⟨⟨old, he⟩, hit, hne⟩ := st
    obtain ⟨xs, x, hq, hx⟩ := hg
    obtain ⟨its, rv, p, hz⟩ := I.tuple hq
    obtain ⟨u, hu, ru⟩ := rv.get hx
    have hel : e < s.heap.objs.size := Heap.lt_size he
    have hil : it < s.heap.objs.size := by
      obtain ⟨_, q, _⟩ := hit
      exact Heap.lt_size q
    have hd : X.A.handled = none := I.ok.hd hc
    have hlt : i < its.toArray.size := by
      rw [List.size_toArray]
      exact (List.getElem?_eq_some_iff.mp hu).1
    refine wpAny_pyNext_enum_itemD (Draws.tuple (A := X.A.in1) hd it a hat its.toArray) he ⟨hit, p⟩ hlt hne (by simp [hne, Ne.symm hae]) fun x' h' tk hP ho st' hT hsz hk => ?_
    have ex : x' = u := by
      have q : its.toArray[i]? = some x' := hP
      rw [List.getElem?_toArray, hu] at q
      exact (Option.some.inj q).symm
    subst ex
    refine ⟨_, rfl, wpAny_letOwnedTupleGo_enum (s := { s with heap := h', toks := tk + 1 }) ho fun h'' he' sb => ?_⟩
    have hT2 : h''.get? s.heap.objs.size = some { cls := .type "tuple", data := .seq #[.int i tk, x'] } := (sb.2 _ (Nat.ne_of_gt hel)).trans hT
    have new : ObjOk X.prog X.w (upd H s.heap.objs.size (.tup [.int (i : Nat), x])) h'' s.heap.objs.size (.tup [.int (i : Nat), x]) :=
      ⟨by show 2 ≤ sizeLine; decide, [.int i tk, x'], .cons ⟨_, rfl⟩ (.cons ru .nil), ⟨_, hT2, rfl, _, rfl⟩⟩
    have I1 : Inv X pins σ (upd H s.heap.objs.size (.tup [.int (i : Nat), x])) { s with heap := h'', toks := tk + 1 } :=
      I.turnedNew (ch := [e, it]) (fun b ob hb q => (sb.2 b (fun z => hb (by simp [z]))).trans (hk b ob (fun z => hb (by simp [z])) (fun z => hb (by simp [z])) q)) hf (Nat.le_refl _) new
    refine ⟨.ref s.heap.objs.size, _, I1, rfl, ⟨_, x, rfl, I.hok.fresh (Nat.le_refl _), rfl, fun ys hy => by rw [I.tuple_inj hy hq]; exact hx⟩, ⟨⟨x', ?_⟩, st'.1.at fun o q => (sb.2 it (Ne.symm hne)).trans q, hne⟩, fun b hb => ?_⟩
    · have e1 : ((i + 1 : Nat) : Int) = (i : Int) + 1 := by omega
      rw [e1]
      exact he'
    · have hb2 : b < s.heap.objs.size := by
        rcases List.mem_cons.mp hb with z | z
        · rw [z]; exact hel
        · rw [List.mem_singleton.mp z]; exact hil
      rw [upd_ne (Nat.ne_of_lt hb2)]
      exact (hf b hb).1
  done := by
    intro X hP hw hK hc i pins s σ H E I hf st hg
    subst hP hw hK
    obtain ⟨⟨old, he⟩, hit, hne⟩ := st
    obtain ⟨xs, hq, hx⟩ := hg
    obtain ⟨its, rv, p, hz⟩ := I.tuple hq
    obtain ⟨f0, f1, f2, f3, f4, f5⟩ := hf it (by simp)
    have hl := rv.length
    have hd : X.A.handled = none := I.ok.hd hc
    have hi : i = its.toArray.size := by rw [List.size_toArray, ← hl, hx]
    subst hi
    exact wpAny_pyNext_enum_endD (Draws.tuple (A := X.A.in1) hd it a hat its.toArray) he ⟨hit, p⟩ fun h' eb => ⟨rfl, I.turned (t' := s.toks) (fun b o hb q => eb b o hb q) f0 f1 f3 f4 f5⟩
  self := fun A i s Q E st h => by
    obtain ⟨⟨_, he⟩, _⟩ := st
    exact wpAny_pyIter_enum he h
theorem walk_enumT {K : PySem.W.Frag} {a : Addr} {xs : List V} :
    Walk (Ite2 K a) xs.length (fun H => SqT K H a xs) (YPair (fun i => some (.int (i : Nat))) (fun i => xs[i]?)) := by
  refine ⟨fun i _ hi q => ⟨xs, xs[i], q, by simp [hi]⟩, fun _ q => ⟨xs, q, rfl⟩, fun i H v H' _ q y => ?_⟩
  obtain ⟨T, x, h1, h2, h3, h4⟩ := y
  exact ⟨T, .int (i : Nat), x, h1, h2, h3, rfl, h4 xs q⟩
def iEnumT (K : PySem.W.Frag) (ta : TA) : TI := fun σ H R => ta σ H fun vs H1 => ∃ a xs, vs = [.ref a] ∧ SqT K H1 a xs ∧ R (Ite2 K a) H1
section
variable {X : Cx} {tg : Expr}
theorem pi_enumT {e : Expr} {ta : TA} {p pos tpos : Pos} {elts : List Expr} {kk : Nat} (hg : Gl X "enumerate") (hm : X.mg "enumerate" = none) (ha : PA X [e] ta) (hs : starEach [e] X.env = [(false, eval e X.env)] := by rfl) :
    PI X (.Tuple elts kk tpos) (.Call (.Name "enumerate" p) [e] [] pos) (iEnumT X.K ta) := by
  refine ⟨fun pins s σ H R I h => Call_ (ld_blt I hg hm boot_enumerate (PyProof.Rows.callWith_type1 (thn (ha.run pos pins s σ H _ I h) fun us s1 ⟨vs, H1, I1, r1, q1⟩ => ?_) hs rfl))⟩
  obtain ⟨a, xs, rfl, hq, q⟩ := q1
  obtain ⟨u, rfl, r⟩ := vals1 r1
  cases (show u = Value.ref a from r)
  obtain ⟨its, rv, p', hz⟩ := I1.tuple hq
  have hat : a < s1.heap.objs.size := p'.lt
  refine call_enum_tup (show s1.heap.IsTuple a its.toArray from p') fun h' he hit hk => wpAny_pyIter_enum he ?_
  have I2 : Inv X pins σ H1 { s1 with heap := h' } := I1.kept (t' := s1.toks) hk
  refine ⟨s1.heap.objs.size + 1, [s1.heap.objs.size + 1, s1.heap.objs.size], _, _, H1, rfl, I2, turn_enumT a (s1.heap.objs.size + 1) s1.heap.objs.size (Nat.ne_of_lt hat) (Nat.ne_of_lt (Nat.lt_succ_of_lt hat)), ⟨⟨.none, he⟩, hit, Nat.succ_ne_self _⟩, fun b hb => ?_, q⟩
  have hle : s1.heap.objs.size ≤ b := by
    rcases List.mem_cons.mp hb with z | z
    · rw [z]
      exact Nat.le_add_right _ _
    · rw [List.mem_singleton.mp z]
      exact Nat.le_refl _
  exact I1.fpOk hle (I1.hok.fresh hle)

/-- a, b = a tuple or a list of two .. -/
def gSeq (K : PySem.W.Frag) (n : Nat) (t : TGs) : TG := fun v σ H Q => ∃ a xs, v = .ref a ∧ (SqT K H a xs ∨ SqL K H a xs) ∧ xs.length = n ∧ t xs σ H Q
theorem pg_seq {es : List Expr} {k : Nat} {pos : Pos} {t : TGs} {n : Nat} (hc : X.calm = true) (h : PGs X es t) (hn : (assignEach es X.env).length = n := by rfl) (hst : (assignEach es X.env).findIdx? (·.1) = none := by rfl) :
    PG X (.Tuple es k pos) (gSeq X.K n t) := by
  refine ⟨fun pins s σ H v u Q I r hw => ?_⟩
  obtain ⟨a, xs, e, hq | hq, hl, hw⟩ := hw
  · exact (pg_tup (n := n) hc h hn hst).run pins s σ H v u Q I r ⟨a, xs, e, hq, hl, hw⟩
  · exact (pg_lst (n := n) hc h hn hst).run pins s σ H v u Q I r ⟨a, xs, e, hq, hl, hw⟩
/-- for over a tuple or a list: whichever it is -/
def iSeq (K : PySem.W.Frag) (tl : TE) : TI := fun σ H R => tl σ H fun v H1 => ∃ (a : Addr) (xs : List V), v = .ref a ∧ (SqT K H1 a xs ∨ SqL K H1 a xs) ∧
  ∀ (J : It) (G : Hp → Prop), Walk J xs.length G (YAt xs) → (∀ H', Evl.Ex H1 H' → G H') → R J H1
theorem pi_seq {l : Expr} {tl : TE} (hl : PE X l tl) : PI X tg l (iSeq X.K tl) := by
  refine ⟨fun pins s σ H R I h => thn (hl.run pins s σ H _ I h) fun v s1 ⟨x, H1, I1, r1, q1⟩ => ?_⟩
  obtain ⟨a, xs, rfl, hq, q⟩ := q1
  cases (show v = Value.ref a from r1)
  have fin : ∀ b ∈ [s1.heap.objs.size], FpOk X pins H1 b := fun b hb => by
    rw [List.mem_singleton.mp hb]
    exact I1.fpOk (Nat.le_refl _) (I1.hok.fresh (Nat.le_refl _))
  rcases hq with hq | hq
  · obtain ⟨its, rv, p, hz⟩ := I1.tuple hq
    refine wpAny_pyIter_tuple (show s1.heap.IsTuple a its.toArray from p) ?_
    exact ⟨s1.heap.objs.size, [s1.heap.objs.size], _, _, H1, rfl, I1.kept (t' := s1.toks) (fun b o e => Heap.get?_push_of_some _ e), turn_tuple a _, ⟨_, Heap.get?_push_size _ rfl, rfl, rfl⟩, fin, q _ _ walk_tup fun H' e => Evl.ex_t e hq⟩
  · obtain ⟨its, rv, p, hz⟩ := I1.list hq
    refine wpAny_pyIter_list p.isList ?_
    exact ⟨s1.heap.objs.size, [s1.heap.objs.size], _, _, H1, rfl, I1.kept (t' := s1.toks) (fun b o e => Heap.get?_push_of_some _ e), turn_list a _, ⟨_, Heap.get?_push_size _ rfl, rfl, rfl⟩, fin, q _ _ walk_list fun H' e => Evl.ex_l e hq⟩

/-- f(k = v, ..) -/
def tCallW (sp : Sp) (gV : List V → List V) (E : XK) (tk : TA) : TE := fun σ H Q => tk σ H fun zs H2 => sp (gV zs) H2 Q E
structure KwOk (K : PySem.W.Frag) (fd : FuncData) (ps ks : List Str) (g : List Value → List Value) (gV : List V → List V) : Prop where
  to : ∀ (s : Shared) (ws : List Value), K.In s.heap → (g ws).length = ps.length → BindsTo s fd ⟨[], ks.zip ws⟩ (ps.zip (g ws))
  rel : ∀ {zs : List V} {ws : List Value}, Vals zs ws → Vals (gV zs) (g ws)
theorem pe_callW {CX : CXT} {k : Nat} {f : Addr} {fd : FuncData} {ps ks : List Str} {sp : Sp} {E : XK} {x : Str} {p pos : Pos} {kws : List Keyword} {tk : TA} {g : List Value → List Value} {gV : List V → List V}
    (F : FnOk X.prog X.w X.K X.mg X.base CX k f fd ps sp) (hr : Room k X.A) (hg : Gl X x) (hm : X.mg x = some (.ref f)) (hk : PySem.W.keepIn X.K (.ref f) = true) (hb : KwOk X.K fd ps ks g gV) (hx : Passes CX X E)
    (hkw : PK X kws tk) (hall : (backToKw pos (keywordEach kws X.env)).all (·.1.isSome) = true := by rfl) (hks : (backToKw pos (keywordEach kws X.env)).filterMap (·.1) = ks := by rfl)
    (hdb : (x == ("__debug__" : Str)) = false := by decide) (hpl : ((backTo pos (starEach [] X.env)).any (·.1) || (backToKw pos (keywordEach kws X.env)).any (·.1.isNone)) = false := by rfl) :
    PE X (.Call (.Name x p) [] kws pos) (tCallW sp gV E tk) := by
  refine ⟨fun pins s σ H Q I h => wpAny_Call_Name_kw (ld_glob I hg hm (PySem.W.callWith_KW0 (h₀ := X.base) I.ok.mod.kin hk hall ?_ hpl) hdb)⟩
  refine thn (hkw.run pos pins s σ H _ I h) fun ws s2 ⟨zs, H2, I2, rz, q2⟩ => ⟨I2.kIn, ?_⟩
  rw [hks]
  show wpAny _ _ (call (.ref f) [] (ks.zip ws)) _ _ _
  have r2 := hb.rel rz
  have hl : (g ws).length = ps.length := by rw [← r2.length]; exact F.len _ _ _ _ q2
  refine wpAny_call (codeAny_mono (F.run X.A X.stack s2 H2 ⟨[], ks.zip ws⟩ (g ws) (gV zs) Q E hr I2.env0 (hb.to s2 ws I2.kIn hl) r2 q2) fun r s' hq => ?_)
  cases r with
  | error e => exact hx pins σ H2 s2 e s' I2 hq
  | ok fl =>
    cases fl with
    | ret u => exact I2.after hq
    | next => exact False.elim hq
    | brk => exact False.elim hq
    | cont => exact False.elim hq

/-- len(set(ints)) -/
def tLenSet (K : PySem.W.Frag) (ta : TE) : TE := fun σ H Q => ta σ H fun x H1 => ∃ (l : Addr) (ns : List Int), x = .ref l ∧ SqL K H1 l (ns.map V.int) ∧ ns.length ≤ 4000 ∧ Q (.int ((PyProof.Rows.firstMet (fun i => ns.getD i 0) ns.length).length : Nat)) H1
theorem pe_lenSet {a : Expr} {ta : TE} {p p2 q pos : Pos} (hg : Gl X "len") (hm : X.mg "len" = none) (hg2 : Gl X "set") (hm2 : X.mg "set" = none) (ha : PE X a ta) (hc : X.calm = true := by rfl)
    (na : starEach [a] X.env = (false, eval a X.env) :: starEach [] X.env := by rfl) : PE X (.Call (.Name "len" p) [.Call (.Name "set" p2) [a] [] q] [] pos) (tLenSet X.K ta) := by
  refine ⟨fun pins s σ H Q I h => Call_ (ld_blt I hg hm boot_len (PyProof.Rows.callWith_builtin1 (PyProof.Rows.args_cons (Call_ (ld_blt I hg2 hm2 boot_set ?_)) rfl) rfl rfl))⟩
  refine PyProof.Rows.callWith_type1 (PyProof.Rows.args_cons (thn (ha.run pins s σ H _ I h) fun v s1 ⟨x, H1, I1, r1, q1⟩ => PyProof.Rows.args_nil ?_) na) na rfl
  obtain ⟨l, ns, rfl, hq, hl, q1⟩ := q1
  cases (show v = Value.ref l from r1)
  obtain ⟨its, r, pl, hz⟩ := I1.list hq
  have hlen : its.toArray.size = ns.length := by rw [List.size_toArray, ← r.length, List.length_map]
  refine call_set_list (I1.ok.hd hc) pl.isList (by simpa using RZ.intsAre_vals r) (by rw [hlen]; unfold scanBound; omega) fun h' tk hS hk => PyProof.Rows.args_nil ?_
  rw [hlen] at hS
  have hle := PyProof.Rows.firstMet_length_le (fun i => ns.getD i 0) ns.length
  obtain ⟨o, es, ep, t, ho, hex, hd, _, _, _, hf, hn⟩ := hS
  have I2 : Inv X pins σ H1 { s1 with heap := h', toks := tk } := I1.kept fun b o e => hk b o (Heap.lt_size e) e
  exact call_len_set ho hex hd hf (by rw [hn] <;> omega) ⟨.int _, H1, I2.tok _, ⟨_, by rw [hn]⟩, q1⟩
end
end Pu
set_option Elab.async false
set_option linter.all false
set_option maxRecDepth 100000
set_option maxHeartbeats 4000000
/-! what values are, at a heap; the builtins that tell it; a pure def as a promise of the layer. -/
namespace Pu
open PySem PySem.Spec PyProof.Rows L2 GxR

/-- a tuple (b = true) or a list of these, at a -/
def SeqG (g : Heap) (b : Bool) (a : Addr) (its : List Value) : Prop := its.length ≤ sizeLine ∧ if b = true then IsTup g a its.toArray else PlainL g a its.toArray
theorem SeqG.mono {g h : Heap} {b : Bool} {a : Addr} {its : List Value} (x : SeqG g b a its) (e : Ext g h) : SeqG h b a its := by
  refine ⟨x.1, ?_⟩
  cases b with
  | true =>
    obtain ⟨o, ho, r⟩ := (show IsTup g a its.toArray from x.2)
    exact ⟨o, e _ _ ho, r⟩
  | false => exact (show PlainL g a its.toArray from x.2).keeps e
inductive TyG (g : Heap) : V → String → Prop
  | non : TyG g .non "NoneType"
  | bl (b : Bool) : TyG g (.bl b) "bool"
  | int (i : Int) : TyG g (.int i) "int"
  | str (x : Str) : TyG g (.str x) "str"
  | tup {a : Addr} {its : List Value} (h : SeqG g true a its) : TyG g (.ref a) "tuple"
  | lst {a : Addr} {its : List Value} (h : SeqG g false a its) : TyG g (.ref a) "list"
theorem TyG.mono {g h : Heap} {x : V} {t : String} (y : TyG g x t) (e : Ext g h) : TyG h x t := by
  cases y with
  | non => exact .non
  | bl b => exact .bl b
  | int i => exact .int i
  | str x => exact .str x
  | tup q => exact .tup (q.mono e)
  | lst q => exact .lst (q.mono e)
theorem TyG.kit {K : PySem.W.Frag} {g : Heap} {x : V} {t : String} {u : Value} (y : TyG g x t) (r : RelV x u) : ∃ P : Heap → Prop, PySem.W.KitX K u (.type t) P ∧ P g ∧ u ≠ .builtin "__main__.__loader__#opaque" := by
  cases y with
  | non => cases (show u = Value.none from r); exact ⟨_, PySem.W.kitx_none, True.intro, fun z => nomatch z⟩
  | bl b => cases (show u = Value.bool b from r); exact ⟨_, PySem.W.kitx_bool, True.intro, fun z => nomatch z⟩
  | int i => obtain ⟨t, rfl⟩ := (show ∃ t, u = Value.int i t from r); exact ⟨_, PySem.W.kitx_int, True.intro, fun z => nomatch z⟩
  | str y => obtain ⟨t, rfl⟩ := (show ∃ t, u = Value.str y t from r); exact ⟨_, PySem.W.kitx_str, True.intro, fun z => nomatch z⟩
  | @tup a its q =>
    cases (show u = Value.ref a from r)
    obtain ⟨o, h1, h2, _⟩ := (show IsTup g a its.toArray from q.2)
    exact ⟨_, PySem.W.kitx_tuple, ⟨o, h1, h2⟩, fun z => nomatch z⟩
  | @lst a its q =>
    cases (show u = Value.ref a from r)
    obtain ⟨o, n, h1, h2, _⟩ := (show PlainL g a its.toArray from q.2)
    exact ⟨_, PySem.W.kitx_list, ⟨o, h1, h2⟩, fun z => nomatch z⟩
/-- what kind of thing an abstract heap tells -/
theorem TyG.of_sq {P : Program} {w : World} {K : PySem.W.Frag} {H : Hp} {h : Heap} {a : Addr} {xs : List V} (ok : HOk P w H h) (kin : K.In h) (q : SqT K H a xs ∨ SqL K H a xs) : ∃ (b : Bool) (its : List Value), Vals xs its ∧ SeqG h b a its := by
  rcases q with q | q
  · rcases q with q | ⟨o, its, n, hk, hc, hs, hz, r⟩
    · obtain ⟨z, its, r, p⟩ := q.ok ok
      exact ⟨true, its, r, by rw [← r.length]; exact z, p⟩
    · refine ⟨true, its.toList, r, by simpa using hz, ?_⟩
      exact ⟨o, kin a o hk, hc, n, by simpa using hs⟩
  · rcases q with q | ⟨o, its, n, hk, hc, hd, hs, hz, r⟩
    · obtain ⟨z, its, n, r, e⟩ := q.ok ok
      exact ⟨false, its, r, by rw [← r.length]; exact z, ⟨_, n, e, rfl, rfl, rfl⟩⟩
    · exact ⟨false, its.toList, r, by simpa using hz, ⟨o, n, kin a o hk, hc, hd, by simpa using hs⟩⟩
theorem TyG.seq {g : Heap} {b : Bool} {a : Addr} {its : List Value} (q : SeqG g b a its) : TyG g (.ref a) (if b = true then "tuple" else "list") := by
  cases b with
  | true => exact .tup q
  | false => exact .lst q

section
variable {P : Program} {w : World} {K : PySem.W.Frag} {mg : Str → Option Value} {base : Heap} {A : Around} {env : Env} {g : Heap}
/-- isinstance(x, T) -/
theorem ev_isi {p q pos : Pos} {e : Expr} {n : Str} {T t : String} {x : V} {b : Bool} (F : FrP K mg base A env g) (hg : env.kindOf "isinstance" = some .globalImplicit) (hm : mg "isinstance" = none) (he : EV P w A env g e x) (ty : TyG g x t)
    (hg2 : env.kindOf n = some .globalImplicit) (hm2 : mg n = none) (hv : bootBuiltins n = some (.type T)) (kb : kitB t T = some b) (hn : n ≠ "__name__" := by decide) (hd : (n == ("__debug__" : Str)) = false := by decide)
    (h1 : starEach [e, .Name n q] env = (false, eval e env) :: starEach [.Name n q] env := by rfl) (h2 : starEach [.Name n q] env = (false, eval (.Name n q) env) :: starEach [] env := by rfl)
    (hpl : (backTo pos (starEach [.Name n q] env)).any (·.1) = false := by rfl) (hvi : bootBuiltins "isinstance" = some (.builtin "isinstance") := by decide +kernel) : EV P w A env g (.Call (.Name "isinstance" p) [e, .Name n q] [] pos) (.bl b) := by
  refine ev_bltcall (vs := [x, .ty T]) F hg hm hvi (ea_cons he (ea_cons (ev_blt (v := .ty T) F hg2 hm2 hv rfl hn hd) ea_nil h2) h1) (fun s us Q E hx r hQ => ?_) (by decide) (by decide) h1 hpl
  obtain ⟨u1, u2, rfl, r1, r2⟩ := vals2 r
  cases (show u2 = Value.type T from r2)
  obtain ⟨Pp, Z, pp, hne⟩ := (ty.mono hx).kit (K := K) r1
  exact PySem.W.kia_one Z (F.mod.kin.keeps fun b o e => hx b o (F.ext b o e)) pp (kit_ty kb) hne fun tk => hQ _ s.heap tk rfl fun _ _ e => e
/-- isinstance(x, (T, ..)) -/
theorem ev_isiT {p pos tp : Pos} {k : Nat} {e : Expr} {es : List Expr} {Ts : List String} {t : String} {x : V} {b : Bool} (F : FrP K mg base A env g) (hg : env.kindOf "isinstance" = some .globalImplicit) (hm : mg "isinstance" = none) (he : EV P w A env g e x) (ty : TyG g x t)
    (ha : EA P w A env g es (Ts.map V.ty)) (kb : PySem.W.kitAny K (.type t) (Ts.map Value.type) = some b) (hl : Ts.length ≤ 1000)
    (h1 : starEach [e, .Tuple es k tp] env = (false, eval e env) :: starEach [.Tuple es k tp] env := by rfl) (h2 : starEach [.Tuple es k tp] env = (false, eval (.Tuple es k tp) env) :: starEach [] env := by rfl)
    (hpl : (backTo pos (starEach [.Tuple es k tp] env)).any (·.1) = false := by rfl) (hvi : bootBuiltins "isinstance" = some (.builtin "isinstance") := by decide +kernel) : EV P w A env g (.Call (.Name "isinstance" p) [e, .Tuple es k tp] [] pos) (.bl b) := fun s Q E hx hQ => by
  obtain ⟨mb, q1, q2⟩ := F.mod.blt
  have hb : Ext base s.heap := fun b o e => hx b o (F.ext b o e)
  refine wpAny_Call_Name_kw (Calls.Name_function_global F.kind hg (Calls.loadGlobal_builtin (by rw [F.glob]; exact F.mod.glob.keeps hb) hm (by rw [F.blt]; exact q1.keeps hb) ((q2 _ (by decide)).trans hvi) ?_) (by decide))
  refine PyProof.Rows.callWith_builtin1 ?_ h1 hpl
  rw [h1]
  show wpAny _ _ (spliced ((false, eval e env) :: backTo pos (starEach [.Tuple es k tp] env))) _ _ s
  refine Calls.spliced_cons (he s _ E hx fun u h' tk r hk => ?_)
  rw [h2]
  show wpAny _ _ (spliced ((false, eval (.Tuple es k tp) env) :: backTo pos (starEach [] env))) _ _ _
  refine Calls.spliced_cons (wpAny_Tuple_spliced (ha _ { s with heap := h', toks := tk } _ E (fun b o e => hk b o (hx b o e)) fun us h2 t2 r2 k2 => ⟨?_, Calls.spliced_nil ?_⟩))
  · rw [← r2.length, List.length_map]
    exact Nat.le_trans hl (by decide)
  · have e2 : us = Ts.map Value.type := by
      clear kb hl hQ ha
      induction Ts generalizing us with
      | nil => cases r2; rfl
      | cons T Ts ih =>
        cases r2 with
        | cons ra rb =>
          rw [show _ = Value.type T from ra, ih _ rb]
          rfl
    subst e2
    have kx : Ext s.heap (h2.push { cls := .type "tuple", data := .seq (Ts.map Value.type).toArray }) := fun b o e => Heap.get?_push_of_some _ (k2 b o (hk b o e))
    have gx : Ext g (h2.push { cls := .type "tuple", data := .seq (Ts.map Value.type).toArray }) := fun b o e => kx b o (hx b o e)
    obtain ⟨Pp, Z, pp, hne⟩ := (ty.mono gx).kit (K := K) r
    exact PySem.W.kia_tup Z (F.mod.kin.keeps fun b o e => gx b o (F.ext b o e)) pp (Heap.get?_push_size _ rfl) kb hne fun tk3 => hQ _ _ tk3 rfl kx
/-- len(x) of a tuple or a list -/
theorem ev_len {p pos : Pos} {e : Expr} {a : Addr} {bb : Bool} {its : List Value} (F : FrP K mg base A env g) (hg : env.kindOf "len" = some .globalImplicit) (hm : mg "len" = none) (he : EV P w A env g e (.ref a)) (sq : SeqG g bb a its)
    (h1 : starEach [e] env = (false, eval e env) :: starEach [] env := by rfl) (hpl : (backTo pos (starEach [] env)).any (·.1) = false := by rfl) : EV P w A env g (.Call (.Name "len" p) [e] [] pos) (.int its.length) := by
  refine ev_bltcall (vs := [.ref a]) F hg hm boot_len (ea_cons he ea_nil h1) (fun s us Q E hx r hQ => ?_) (by decide) (by decide) h1 hpl
  obtain ⟨u, rfl, r1⟩ := vals1 r
  cases (show u = Value.ref a from r1)
  have hl := line63
  have hz := (sq.mono hx).1
  have hsz : its.toArray.size = its.length := by simp
  have fin : ∀ t1 t2, Q (.int its.length t1) { s with toks := t2 } := fun t1 t2 => hQ _ s.heap t2 ⟨_, rfl⟩ fun _ _ e => e
  cases bb with
  | true => exact len_tuple (show IsTup s.heap a its.toArray from (sq.mono hx).2) (by rw [hsz]; omega) (by rw [hsz]; exact fin _ _)
  | false => exact Calls.call_len_list (show PlainL s.heap a its.toArray from (sq.mono hx).2).isList (by rw [hsz]; omega) (by rw [hsz]; exact fin _ _)
/-- x[i], i written -/
theorem ev_ix {pos : Pos} {e ie : Expr} {a : Addr} {bb : Bool} {its : List Value} {j : Nat} {u : Value} {v : V} (F : FrP K mg base A env g) (he : EV P w A env g e (.ref a)) (hi : EV P w A env g ie (.int j)) (sq : SeqG g bb a its) (hj : its[j]? = some u) (r : RelV v u) (hs : PlainIx ie := by exact fun _ _ => rfl) :
    EV P w A env g (.Subscript e ie pos) v := fun s Q E hx hQ => by
  refine Subscript_ (he s _ E hx fun o h' tk ro hk => hi { s with heap := h', toks := tk } _ E (fun b o e => hk b o (hx b o e)) fun iv h2 t2 ri k2 => ?_)
  cases (show o = Value.ref a from ro)
  obtain ⟨t, rfl⟩ := (show ∃ t, iv = Value.int j t from ri)
  have gx : Ext g h2 := fun b o e => k2 b o (hk b o (hx b o e))
  have lt : j < its.length := (List.getElem?_eq_some_iff.mp hj).1
  have hn := line63
  have hz := sq.1
  have fin : Q u { s with heap := h2, toks := t2 } := hQ u h2 t2 r fun b o e => k2 b o (hk b o e)
  have ej : its.toArray[j]? = some u := by simpa using hj
  cases bb with
  | true =>
    have p : IsTup h2 a its.toArray := (sq.mono gx).2
    exact subscriptTail_builtinR (x := u) p.typeIs slot_tuple_getitem.lookup
      (PyProof.Rows.getItem_tuple (j := j) (Q := fun r s' => r = u ∧ Q r s') p (by omega) (by omega) (seqIndex_of (by omega) (by simpa using lt)) ej ⟨rfl, fin⟩) (hs _ _)
  | false =>
    have p : PlainL h2 a its.toArray := (sq.mono gx).2
    exact item_listR p.isList (by omega) (by omega) (by simpa using ej) fin (hs _ _)
end

/-- a pure def as a promise of the layer -/
def spPure (P : Program) (w : World) (base : Heap) (ps : List Str) (sp : List V → Heap → V → Prop) : Sp := fun vs H Q _ => vs.length = ps.length ∧ ∃ v, (∀ h, HOk P w H h → Ext base h → sp vs h v) ∧ Q v H
theorem PF.ok {P : Program} {w : World} {K : PySem.W.Frag} {mg : Str → Option Value} {base : Heap} {k : Nat} {f : Addr} {fd : FuncData} {ps : List Str} {sp : List V → Heap → V → Prop} (G : PF P w K mg base k f fd ps sp) :
    FnOk P w K mg base CX0 k f fd ps (spPure P w base ps sp) := by
  refine ⟨fun vs H Q E h => h.1, fun A outer s H args us vs Q E hr e0 hb rv h => ?_⟩
  obtain ⟨hl, v, hv, hQ⟩ := h
  have hx : Ext base s.heap := fun b o e => (e0.bs b o e).1
  refine G.run A s args us vs v _ hr hx hb rv hl (hv _ e0.hok hx) fun u h' tk r hk => ?_
  exact ⟨v, H, rfl, e0.bare, Un.kept hk, e0.hok.kept hk, r, hQ⟩
end Pu
/-! shapes by numbers alone -/
namespace Sh
def counts (k m : Nat) : List Nat :=
  if h : k < m ∧ 2 ≤ k then (k - (m - k) % 2) :: counts k ((m - (k - (m - k) % 2)) / 2) else if 0 < m then [m] else []
termination_by m
decreasing_by omega
def tot : List Nat → Nat → Nat
  | [], _ => 0
  | c :: cs, s => tot cs (2 * s) + s * c
def sh (f : Nat) : List Nat → Nat → List (Nat × Nat)
  | [], _ => []
  | c :: cs, s => sh f cs (2 * s) ++ (List.range c).map fun j => (f + tot cs (2 * s) + s * j, s)
/-- the shape of rows f up to l -/
def shp (k f l : Nat) : List (Nat × Nat) := sh f (counts k (l - f)) 1
inductive Val (k : Nat) : List Nat → Prop
  | one {c : Nat} (h1 : 1 ≤ c) (h2 : c ≤ k) : Val k [c]
  | more {c d : Nat} {cs : List Nat} (h : c = k ∨ c + 1 = k) (r : Val k (d :: cs)) : Val k (c :: d :: cs)
theorem tot_scale : ∀ (cs : List Nat) (s : Nat), tot cs s = s * tot cs 1
  | [], s => rfl
  | c :: cs, s => by
    show tot cs (2 * s) + s * c = s * (tot cs (2 * 1) + 1 * c)
    rw [tot_scale cs (2 * s), tot_scale cs (2 * 1), Nat.mul_add, Nat.one_mul, ← Nat.mul_assoc, ← Nat.mul_assoc, Nat.mul_one, Nat.mul_comm 2 s]
theorem tot_cons (c : Nat) (cs : List Nat) : tot (c :: cs) 1 = 2 * tot cs 1 + c := by
  show tot cs (2 * 1) + 1 * c = _
  rw [tot_scale cs (2 * 1)]
  omega
theorem tot_pos {k : Nat} {cs : List Nat} (h : Val k cs) (_ : 2 ≤ k) : 0 < tot cs 1 := by
  induction h with
  | one h1 h2 => rw [tot_cons]; omega
  | more h r ih => rw [tot_cons]; omega
theorem counts_big {k m : Nat} (h : k < m) (hk : 2 ≤ k) : counts k m = (k - (m - k) % 2) :: counts k ((m - (k - (m - k) % 2)) / 2) := by
  rw [counts, dif_pos ⟨h, hk⟩]
theorem counts_small {k m : Nat} (h : ¬ k < m) : counts k m = if 0 < m then [m] else [] := by
  rw [counts, dif_neg fun z => h z.1]
theorem counts_zero (k : Nat) : counts k 0 = [] := by rw [counts_small (by omega)]; rfl
theorem counts_tot {k : Nat} (hk : 2 ≤ k) : ∀ m, tot (counts k m) 1 = m := by
  intro m
  induction m using Nat.strongRecOn with
  | ind m ih =>
    by_cases h : k < m
    · rw [counts_big h hk, tot_cons, ih _ (by omega)]
      omega
    · rw [counts_small h]
      by_cases h0 : 0 < m
      · rw [if_pos h0, tot_cons]
        show 2 * 0 + m = m
        omega
      · rw [if_neg h0]
        show 0 = m
        omega
theorem counts_val {k : Nat} (hk : 2 ≤ k) : ∀ m, 0 < m → Val k (counts k m) := by
  intro m
  induction m using Nat.strongRecOn with
  | ind m ih =>
    intro h0
    by_cases h : k < m
    · rw [counts_big h hk]
      have q := ih ((m - (k - (m - k) % 2)) / 2) (by omega) (by omega)
      generalize counts k ((m - (k - (m - k) % 2)) / 2) = cs at q
      cases q with
      | one a b => exact .more (by omega) (.one a b)
      | more a b => exact .more (by omega) (.more a b)
    · rw [counts_small h, if_pos h0]
      exact .one h0 (by omega)
theorem uniq {k : Nat} {cs : List Nat} (hk : 2 ≤ k) (h : Val k cs) : counts k (tot cs 1) = cs := by
  induction h with
  | @one c h1 h2 =>
    have e : tot [c] 1 = c := by rw [tot_cons]; show 2 * 0 + c = c; omega
    rw [e, counts_small (by omega), if_pos (show 0 < c from h1)]
  | @more c d cs h r ih =>
    have p := tot_pos r hk
    rw [tot_cons, counts_big (by omega) hk]
    have e1 : k - (2 * tot (d :: cs) 1 + c - k) % 2 = c := by omega
    rw [e1]
    have e2 : (2 * tot (d :: cs) 1 + c - c) / 2 = tot (d :: cs) 1 := by omega
    rw [e2, ih]
theorem val_ne {k : Nat} {cs : List Nat} (h : Val k cs) : cs ≠ [] := by
  cases h <;> simp
/-- the spans from some on are the shape from their first row on -/
theorem suffix {k : Nat} : ∀ (cs : List Nat) (s f j : Nat), Val k cs → ∃ cs' f', (cs' = [] ∨ Val k cs') ∧ (sh f cs s).drop j = sh f' cs' s ∧ f' + tot cs' s = f + tot cs s := by
  intro cs
  induction cs with
  | nil => intro s f j h; cases h
  | cons c cs ih =>
    intro s f j h
    -- within the block of the least size
    have blk : ∀ i, 1 ≤ c → (cs = [] ∨ Val k cs) → c ≤ k → ∃ cs' f', (cs' = [] ∨ Val k cs') ∧ ((List.range c).map fun j => (f + tot cs (2 * s) + s * j, s)).drop i = sh f' cs' s ∧ f' + tot cs' s = f + tot (c :: cs) s := by
      intro i h1 _ h2
      by_cases hi : i < c
      · refine ⟨[c - i], f + tot cs (2 * s) + s * i, .inr (.one (by omega) (by omega)), ?_, ?_⟩
        · show _ = [] ++ _
          rw [List.nil_append]
          apply List.ext_getElem
          · simp
          · intro n h1 h2
            simp only [List.getElem_drop, List.getElem_map, List.getElem_range]
            show (f + tot cs (2 * s) + s * (i + n), s) = (f + tot cs (2 * s) + s * i + 0 + s * n, s)
            rw [Nat.mul_add]
            simp only [Prod.mk.injEq, and_true]
            omega
        · show f + tot cs (2 * s) + s * i + (0 + s * (c - i)) = f + (tot cs (2 * s) + s * c)
          have : s * i + s * (c - i) = s * c := by rw [← Nat.mul_add]; congr 1; omega
          omega
      · refine ⟨[], f + tot (c :: cs) s, .inl rfl, ?_, rfl⟩
        rw [List.drop_of_length_le (by simp; omega)]
        rfl
    cases h with
    | one h1 h2 =>
      obtain ⟨cs', f', a, b, e⟩ := blk j h1 (.inl rfl) h2
      exact ⟨cs', f', a, by simpa [sh] using b, e⟩
    | @more _ d ds hc r =>
      by_cases hj : j ≤ (sh f (d :: ds) (2 * s)).length
      · by_cases hj2 : j < (sh f (d :: ds) (2 * s)).length
        · obtain ⟨cs', f', a, b, e⟩ := ih (2 * s) f j r
          have ne : cs' ≠ [] := fun z => by
            subst z
            have q : ((sh f (d :: ds) (2 * s)).drop j).length = 0 := by rw [b]; rfl
            rw [List.length_drop] at q
            omega
          have v : Val k cs' := a.resolve_left ne
          refine ⟨c :: cs', f', .inr ?_, ?_, ?_⟩
          · cases v with
            | one p q => exact .more hc (.one p q)
            | more p q => exact .more hc (.more p q)
          · show ((sh f (d :: ds) (2 * s)) ++ _).drop j = sh f' cs' (2 * s) ++ _
            rw [List.drop_append_of_le_length hj, b, e]
          · show f' + (tot cs' (2 * s) + s * c) = f + (tot (d :: ds) (2 * s) + s * c)
            omega
        · have hj3 : j = (sh f (d :: ds) (2 * s)).length := by omega
          by_cases c0 : c = 0
          · refine ⟨[], f + tot (c :: d :: ds) s, .inl rfl, ?_, rfl⟩
            rw [hj3, c0]
            simp [sh]
          · obtain ⟨cs', f', a, b, e⟩ := blk 0 (by omega) (.inr r) (by omega)
            refine ⟨cs', f', a, ?_, e⟩
            show ((sh f (d :: ds) (2 * s)) ++ _).drop j = _
            rw [hj3, List.drop_left]
            simpa using b
      · by_cases c0 : c = 0
        · refine ⟨[], f + tot (c :: d :: ds) s, .inl rfl, ?_, rfl⟩
          show ((sh f (d :: ds) (2 * s)) ++ _).drop j = _
          rw [List.drop_of_length_le (by rw [c0, List.length_append]; simp; omega)]
          rfl
        · obtain ⟨cs', f', a, b, e⟩ := blk (j - (sh f (d :: ds) (2 * s)).length) (by omega) (.inr r) (by omega)
          refine ⟨cs', f', a, ?_, e⟩
          show ((sh f (d :: ds) (2 * s)) ++ _).drop j = _
          rw [List.drop_append, List.drop_of_length_le (show (sh f (d :: ds) (2 * s)).length ≤ j by omega), List.nil_append]
          exact b

/-! ### within, in order -/
theorem sh_mem : ∀ (cs : List Nat) (s f : Nat) (p : Nat × Nat), p ∈ sh f cs s → f ≤ p.1 ∧ p.1 + p.2 ≤ f + tot cs s ∧ s ≤ p.2
  | [], _, _, _, h => by cases h
  | c :: cs, s, f, p, h => by
    rcases List.mem_append.mp h with h | h
    · obtain ⟨a, b, e⟩ := sh_mem cs (2 * s) f p h
      refine ⟨a, ?_, by omega⟩
      show p.1 + p.2 ≤ f + (tot cs (2 * s) + s * c)
      omega
    · obtain ⟨j, hj, rfl⟩ := List.mem_map.mp h
      have hj2 := List.mem_range.mp hj
      have q : s * (j + 1) ≤ s * c := Nat.mul_le_mul_left s hj2
      rw [Nat.mul_succ] at q
      refine ⟨?_, ?_, Nat.le_refl _⟩
      · show f ≤ f + tot cs (2 * s) + s * j
        omega
      · show f + tot cs (2 * s) + s * j + s ≤ f + (tot cs (2 * s) + s * c)
        omega
theorem sh_pair : ∀ (cs : List Nat) (s f : Nat), (sh f cs s).Pairwise fun a b => a.1 + a.2 ≤ b.1
  | [], _, _ => .nil
  | c :: cs, s, f => by
    refine List.pairwise_append.mpr ⟨sh_pair cs (2 * s) f, ?_, fun a ha b hb => ?_⟩
    · rw [List.pairwise_map]
      refine List.Pairwise.imp ?_ (List.pairwise_lt_range (n := c))
      intro i j h
      have q : s * (i + 1) ≤ s * j := Nat.mul_le_mul_left s h
      rw [Nat.mul_succ] at q
      show f + tot cs (2 * s) + s * i + s ≤ f + tot cs (2 * s) + s * j
      omega
    · have h1 := (sh_mem cs (2 * s) f a ha).2.1
      obtain ⟨j, _, rfl⟩ := List.mem_map.mp hb
      show a.1 + a.2 ≤ f + tot cs (2 * s) + s * j
      omega
/-- what does not lie below is what stands behind some spans -/
theorem filter_drop (b : Nat) : ∀ L : List (Nat × Nat), (L.Pairwise fun a b => a.1 + a.2 ≤ b.1) → ∃ j, L.filter (fun p => decide (b < p.1 + p.2)) = L.drop j
  | [], _ => ⟨0, rfl⟩
  | p :: L, h => by
    obtain ⟨h1, h2⟩ := List.pairwise_cons.mp h
    by_cases hp : b < p.1 + p.2
    · refine ⟨0, ?_⟩
      rw [List.drop_zero, List.filter_eq_self]
      intro q hq
      rcases List.mem_cons.mp hq with e | hq
      · rw [e]; exact decide_eq_true hp
      · have := h1 q hq
        exact decide_eq_true (by omega)
    · obtain ⟨j, hj⟩ := filter_drop b L h2
      refine ⟨j + 1, ?_⟩
      rw [List.filter_cons, if_neg (by simpa using hp), hj]
      rfl
/-- the first row of a shape -/
theorem sh_head {k : Nat} : ∀ {cs : List Nat} (_ : Val k cs) (_ : 2 ≤ k) (s f : Nat), ∃ m r, sh f cs s = (f, m) :: r
  | _, .one (c := c) h1 h2, _, s, f => by
    obtain ⟨d, rfl⟩ : ∃ d, c = d + 1 := ⟨c - 1, by omega⟩
    refine ⟨s, (List.range d).map fun j => (f + s * (j + 1), s), ?_⟩
    show [] ++ (List.range (d + 1)).map _ = _
    rw [List.nil_append, List.range_succ_eq_map, List.map_cons, List.map_map]
    rfl
  | _, .more (c := c) (d := d) (cs := cs) h r, hk, s, f => by
    obtain ⟨m, q, e⟩ := sh_head r hk (2 * s) f
    refine ⟨m, q ++ (List.range c).map fun j => (f + tot (d :: cs) (2 * s) + s * j, s), ?_⟩
    show sh f (d :: cs) (2 * s) ++ _ = _
    rw [e]
    rfl
def firstOf (L : List (Nat × Nat)) (l : Nat) : Nat := match L with
  | [] => l
  | p :: _ => p.1
theorem firstOf_sh {k f l : Nat} (hk : 2 ≤ k) (h : f ≤ l) : firstOf (shp k f l) l = f := by
  unfold shp
  by_cases e : l - f = 0
  · rw [e, counts_zero]
    show l = f
    omega
  · obtain ⟨m, r, q⟩ := sh_head (counts_val hk (l - f) (by omega)) hk 1 f
    rw [q]
    rfl
def gone (b : Nat) (L : List (Nat × Nat)) : List (Nat × Nat) := L.filter fun p => decide (b < p.1 + p.2)
/-- letting go leaves the shape of the row that is then the first -/
theorem gone_shp {k f l b : Nat} (hk : 2 ≤ k) (h : f ≤ l) : firstOf (gone b (shp k f l)) l ≤ l ∧ gone b (shp k f l) = shp k (firstOf (gone b (shp k f l)) l) l := by
  by_cases e : l - f = 0
  · have e2 : shp k f l = [] := by
      unfold shp
      rw [e, counts_zero]
      rfl
    rw [e2]
    refine ⟨Nat.le_refl _, ?_⟩
    show [] = shp k l l
    unfold shp
    rw [Nat.sub_self, counts_zero]
    rfl
  · have v := counts_val hk (l - f) (by omega)
    have t := counts_tot hk (l - f)
    obtain ⟨j, hj⟩ := filter_drop b (shp k f l) (sh_pair _ _ _)
    obtain ⟨cs', f', a, q, e2⟩ := suffix _ 1 f j v
    have g : gone b (shp k f l) = sh f' cs' 1 := hj.trans q
    rw [g]
    rw [t] at e2
    rcases a with a | a
    · subst a
      have e3 : f' = l := by
        have : f' + 0 = f + (l - f) := e2
        omega
      refine ⟨Nat.le_refl _, ?_⟩
      show [] = shp k l l
      unfold shp
      rw [Nat.sub_self, counts_zero]
      rfl
    · obtain ⟨m, r, q2⟩ := sh_head a hk 1 f'
      have e3 : firstOf (sh f' cs' 1) l = f' := by rw [q2]; rfl
      have e4 : l - f' = tot cs' 1 := by omega
      have p := tot_pos a hk
      rw [e3]
      refine ⟨by omega, ?_⟩
      unfold shp
      rw [e4, uniq hk a]
/-- how many of each size -/
theorem sizes_sh : ∀ (cs : List Nat) (s f : Nat), (sh f cs s).map (·.2) = (sh 0 cs s).map (·.2)
  | [], _, _ => rfl
  | c :: cs, s, f => by
    show (sh f cs (2 * s) ++ _).map _ = (sh 0 cs (2 * s) ++ _).map _
    rw [List.map_append, List.map_append, sizes_sh cs (2 * s) f, List.map_map, List.map_map]
    rfl
theorem size_in : ∀ (cs : List Nat) (s f : Nat) (p : Nat × Nat), p ∈ sh f cs s → ∃ i, i < cs.length ∧ p.2 = s * 2 ^ i
  | [], _, _, _, h => by cases h
  | c :: cs, s, f, p, h => by
    rcases List.mem_append.mp h with h | h
    · obtain ⟨i, hi, e⟩ := size_in cs (2 * s) f p h
      exact ⟨i + 1, by simpa using hi, by rw [e, Nat.pow_succ, Nat.mul_comm 2 s, Nat.mul_assoc, Nat.mul_comm 2]⟩
    · obtain ⟨j, _, rfl⟩ := List.mem_map.mp h
      exact ⟨0, by simp, by simp⟩
theorem count_sh : ∀ (cs : List Nat) (s f i : Nat), 0 < s → i < cs.length → ((sh f cs s).filter fun p => decide (p.2 = s * 2 ^ i)).length = cs.getD i 0
  | [], _, _, _, _, h => by simp at h
  | c :: cs, s, f, 0, hs, _ => by
    show ((sh f cs (2 * s) ++ (List.range c).map _).filter _).length = c
    rw [List.filter_append, List.length_append]
    have e1 : (sh f cs (2 * s)).filter (fun p => decide (p.2 = s * 2 ^ 0)) = [] := by
      rw [List.filter_eq_nil_iff]
      intro p hp
      have := (sh_mem cs (2 * s) f p hp).2.2
      simp
      omega
    have e2 : ((List.range c).map fun j => (f + tot cs (2 * s) + s * j, s)).filter (fun p => decide (p.2 = s * 2 ^ 0)) = (List.range c).map fun j => (f + tot cs (2 * s) + s * j, s) := by
      rw [List.filter_eq_self]
      intro p hp
      obtain ⟨j, _, rfl⟩ := List.mem_map.mp hp
      simp
    rw [e1, e2, List.length_map, List.length_range]
    simp
  | c :: cs, s, f, i + 1, hs, h => by
    show ((sh f cs (2 * s) ++ (List.range c).map _).filter _).length = cs.getD i 0
    rw [List.filter_append, List.length_append]
    have e2 : ((List.range c).map fun j => (f + tot cs (2 * s) + s * j, s)).filter (fun p => decide (p.2 = s * 2 ^ (i + 1))) = [] := by
      rw [List.filter_eq_nil_iff]
      intro p hp
      obtain ⟨j, _, rfl⟩ := List.mem_map.mp hp
      have : 1 < 2 ^ (i + 1) := Nat.one_lt_two_pow (by omega)
      have q : s * 1 < s * 2 ^ (i + 1) := Nat.mul_lt_mul_of_pos_left this hs
      simp
      omega
    have e3 : s * 2 ^ (i + 1) = 2 * s * 2 ^ i := by rw [Nat.pow_succ, Nat.mul_comm 2 s, Nat.mul_assoc, Nat.mul_comm 2]
    rw [e2, e3, count_sh cs (2 * s) f i (by omega) (by simpa using h)]
    rfl
theorem val_pos {k : Nat} {cs : List Nat} (h : Val k cs) (hk : 2 ≤ k) : ∀ i, i < cs.length → 1 ≤ cs.getD i 0 := by
  induction h with
  | one h1 h2 =>
    intro i hi
    have : i = 0 := by simpa using hi
    subst this
    exact h1
  | more h r ih =>
    intro i hi
    cases i with
    | zero => show 1 ≤ _; simp; omega
    | succ i => exact ih i (by simpa using hi)
theorem val_le {k : Nat} {cs : List Nat} (h : Val k cs) : ∀ i, cs.getD i 0 ≤ k := by
  induction h with
  | one h1 h2 =>
    intro i
    cases i with
    | zero => exact h2
    | succ i => simp
  | more h r ih =>
    intro i
    cases i with
    | zero => show _ ≤ _; simp; omega
    | succ i => exact ih i
theorem counts_le {k : Nat} (hk : 2 ≤ k) (m i : Nat) : (counts k m).getD i 0 ≤ k := by
  by_cases h : 0 < m
  · exact val_le (counts_val hk m h) i
  · have : m = 0 := by omega
    rw [this, counts_zero]
    simp
theorem tot_drop : ∀ (cs : List Nat) (i : Nat), tot (cs.drop i) (2 ^ i) ≤ tot cs 1
  | cs, 0 => Nat.le_refl _
  | [], i + 1 => by simp [tot]
  | c :: cs, i + 1 => by
    have h := tot_drop cs i
    rw [tot_cons]
    show tot (cs.drop i) (2 ^ (i + 1)) ≤ _
    rw [tot_scale] at h ⊢
    rw [Nat.pow_succ, Nat.mul_comm (2 ^ i) 2, Nat.mul_assoc]
    omega
theorem counts_len (k : Nat) (hk : 2 ≤ k) : ∀ m, (counts k m).length ≤ m := by
  intro m
  induction m using Nat.strongRecOn with
  | ind m ih =>
    by_cases h : k < m
    · rw [counts_big h hk, List.length_cons]
      have := ih ((m - (k - (m - k) % 2)) / 2) (by omega)
      omega
    · rw [counts_small h]
      by_cases h0 : 0 < m
      · rw [if_pos h0]; exact h0
      · rw [if_neg h0]; exact Nat.zero_le _
theorem sh_len : ∀ (cs : List Nat) (s f : Nat), 0 < s → (sh f cs s).length ≤ tot cs s
  | [], _, _, _ => Nat.le_refl _
  | c :: cs, s, f, hs => by
    have h := sh_len cs (2 * s) f (by omega)
    show (sh f cs (2 * s) ++ (List.range c).map _).length ≤ tot cs (2 * s) + s * c
    rw [List.length_append, List.length_map, List.length_range]
    have : 1 * c ≤ s * c := Nat.mul_le_mul_right c hs
    omega
theorem shp_len {k f l : Nat} (hk : 2 ≤ k) : (shp k f l).length ≤ l - f := by
  have h := sh_len (counts k (l - f)) 1 f (by omega)
  rw [counts_tot hk] at h
  exact h
theorem shp_mem {k f l : Nat} (hk : 2 ≤ k) (h : f ≤ l) {p : Nat × Nat} (hp : p ∈ shp k f l) : f ≤ p.1 ∧ p.1 + p.2 ≤ l ∧ 1 ≤ p.2 := by
  obtain ⟨a, b, c⟩ := sh_mem _ _ _ _ hp
  rw [counts_tot hk] at b
  exact ⟨a, by omega, c⟩
end Sh
set_option Elab.async false
set_option linter.all false
set_option maxRecDepth 100000
set_option maxHeartbeats 4000000
namespace Pu
open PySem PySem.Spec PyProof.Rows L2 GxR Evl
/-- a comprehension: acc by the turn and the heap -/
theorem lc_gen {J : It} {n : Nat} {G : Hp → Prop} {Y : Nat → Hp → V → Hp → Prop} (w : Walk J n G Y) {g : TG} {tt : TT} {te : TE} {vs : List Nat} {σ : L2.St} {H1 : Hp} {D : Addr} {Qd : Hp → Prop} (R : Nat → Hp → List V → Prop) (hn : n ≤ 40000) (hD : H1 D = none)
    (hU : ∀ i H xs ys acc, H D = some (.lst xs) → R i H acc → R i (upd H D (.lst ys)) acc) (h0 : R 0 (upd H1 D (.lst [])) []) (hG : ∀ H, Ex H1 H → G H)
    (turn : ∀ i x H H' acc, i < n → Ex H1 H → Y i H x H' → R i H acc → ∀ (Qy : V → Hp → Prop) (Qn : Hp → Prop), (∀ y H4, Ex H H4 → R (i + 1) H4 (acc ++ [y]) → Qy y H4) → (∀ H3, Ex H H3 → R (i + 1) H3 acc → Qn H3) →
      g x (wipe σ vs) H' fun σ2 H2 => wipe σ2 vs = wipe σ vs ∧ tt σ2 H2 fun b H3 => if b = true then te σ2 H3 Qy else Qn H3)
    (hd : ∀ H acc, Ex H1 H → H D = some (.lst acc) → R n H acc → Qd H) :
    ∃ W : Nat → Nat → Hp → Prop, (∃ m, W 0 m (upd H1 D (.lst []))) ∧ ∀ i m H, W i m H →
      (J.stop i H ∧ Qd H) ∨ (J.go i H ∧ ∃ Nx : Hp → Prop, (∀ H', Nx H' → ∃ m', m' < m ∧ W (i + 1) m' H') ∧ ∀ x H', J.yld i H x H' → g x (wipe σ vs) H' fun σ2 H2 => wipe σ2 vs = wipe σ vs ∧ tt σ2 H2 fun b H3 =>
        if b = true then te σ2 H3 fun y H4 => ∃ acc, H4 D = some (.lst acc) ∧ acc.length < sizeLine ∧ Nx (upd H4 D (.lst (acc ++ [y]))) else Nx H3) := by
  refine lc_it w (fun i H => Ex H1 H ∧ ∃ acc, H D = some (.lst acc) ∧ acc.length ≤ i ∧ R i H acc) ⟨Ex.new hD, [], upd_same, Nat.le_refl _, h0⟩ (fun i H _ p => hG H p.1) (fun i x H H' hi p y => ?_) fun H p => ?_
  · obtain ⟨ex, acc, hH, hl, hR⟩ := p
    refine turn i x H H' acc hi ex y hR _ _ (fun v H4 e4 r4 => ?_) fun H3 e3 r3 => ⟨ex.trans e3, acc, e3 D _ hH, Nat.le_succ_of_le hl, r3⟩
    have hz : acc.length < sizeLine := Nat.lt_of_le_of_lt (show acc.length ≤ 40000 by omega) (by decide)
    refine ⟨acc, e4 D _ hH, hz, Ex.mut (ex.trans e4) hD, acc ++ [v], upd_same, ?_, hU _ _ _ _ _ (e4 D _ hH) r4⟩
    rw [List.length_append, List.length_singleton]
    omega
  · obtain ⟨ex, acc, hH, _, hR⟩ := p
    exact hd H acc ex hH hR
theorem yes_then {te : TE} {σ : L2.St} {H : Hp} {Qy : VK} {Qn : Hp → Prop} (h : te σ H Qy) : tYes σ H fun b H3 => if b = true then te σ H3 Qy else Qn H3 := by
  show (if true = true then te σ H Qy else Qn H)
  rw [if_pos rfl]
  exact h
/-- pairs of numbers, each a tuple -/
def PrT (H : Hp) (L : List (Nat × Nat)) (xs : List V) : Prop := Paired (fun (p : Nat × Nat) (v : V) => ∃ b, v = .ref b ∧ H b = some (.tup [.int (p.1 : Nat), .int (p.2 : Nat)])) L xs
theorem PrT.ex {H H' : Hp} {L : List (Nat × Nat)} {xs : List V} (h : PrT H L xs) (e : Ex H H') : PrT H' L xs := Paired.mapP h fun p v ⟨b, h1, h2⟩ => ⟨b, h1, e _ _ h2⟩
theorem PrT.upd {H : Hp} {L : List (Nat × Nat)} {xs ys : List V} {D : Addr} {o : HO} (h : PrT H L xs) (hD : H D = some (.lst ys)) : PrT (upd H D o) L xs := Paired.mapP h fun p v ⟨b, h1, h2⟩ =>
  ⟨b, h1, by rw [upd_ne (ne_of h2 hD (by intro z; cases z))]; exact h2⟩
theorem Paired.app {α β : Type} {F : α → β → Prop} : ∀ {l : List α} {m : List β} {l' : List α} {m' : List β}, Paired F l m → Paired F l' m' → Paired F (l ++ l') (m ++ m')
  | _, _, _, _, .nil, s => s
  | _, _, _, _, .cons r t, s => .cons r (Paired.app t s)
theorem PrT.snoc {H : Hp} {L : List (Nat × Nat)} {xs : List V} {p : Nat × Nat} {b : Addr} (h : PrT H L xs) (e : H b = some (.tup [.int (p.1 : Nat), .int (p.2 : Nat)])) : PrT H (L ++ [p]) (xs ++ [.ref b]) := Paired.app h (.cons ⟨b, rfl, e⟩ .nil)
theorem Paired.at {α β : Type} {F : α → β → Prop} : ∀ {l : List α} {m : List β} {i : Nat} {y : β}, Paired F l m → m[i]? = some y → ∃ x, l[i]? = some x ∧ F x y
  | _, _, _, _, .nil, e => by simp at e
  | _, _, 0, _, .cons r _, e => by simp at e; subst e; exact ⟨_, rfl, r⟩
  | _, _, i + 1, y, .cons _ t, e => by
    obtain ⟨x, h1, h2⟩ := Paired.at (i := i) (y := y) t (by simpa using e)
    exact ⟨x, by simpa using h1, h2⟩
theorem PrT.len {H : Hp} {L : List (Nat × Nat)} {xs : List V} (h : PrT H L xs) : L.length = xs.length := Paired.length h
/-- the call of a def that hands back a new tuple -/
theorem eu_call {pre : List V → Hp → List V → Prop} {K : PySem.W.Frag} {σ : L2.St} {H : Hp} {ta : TA} {vs xs : List V} {E : XK} (h : EvA ta σ H vs) (hp : ∀ H1, Ex H H1 → pre (vs ++ []) H1 xs) :
    EvU (tCall (fun vs H Q _ => ∃ xs, pre vs H xs ∧ ∀ p H', H p = none → Ex H H' → H' p = some (.tup xs) → Q (.ref p) H') [] E ta) σ H xs := fun H1 e Q q =>
  h H1 e _ fun H2 e2 => ⟨xs, hp H2 (e.trans e2), fun p H3 hn e3 h3 => q p H3 (fresh_back e2 hn) (e2.trans e3) h3⟩
end Pu
namespace Pu
open PySem PySem.Spec PyProof.Rows L2 GxR Evl
/-- a tuple or a list -/
def SqE (K : PySem.W.Frag) (H : Hp) (a : Addr) (xs : List V) : Prop := SqT K H a xs ∨ SqL K H a xs
theorem SqE.ex {K : PySem.W.Frag} {H H' : Hp} {a : Addr} {xs : List V} (q : SqE K H a xs) (e : Ex H H') : SqE K H' a xs := q.elim (fun q => .inl (ex_t e q)) fun q => .inr (ex_l e q)
/-- pairs of numbers, each a tuple or a list -/
def PrIn (K : PySem.W.Frag) (H : Hp) (L : List (Nat × Nat)) (xs : List V) : Prop := Paired (fun (p : Nat × Nat) (v : V) => ∃ b, v = .ref b ∧ SqE K H b [.int (p.1 : Nat), .int (p.2 : Nat)]) L xs
theorem PrIn.ex {K : PySem.W.Frag} {H H' : Hp} {L : List (Nat × Nat)} {xs : List V} (h : PrIn K H L xs) (e : Ex H H') : PrIn K H' L xs := Paired.mapP h fun p v ⟨b, h1, h2⟩ => ⟨b, h1, h2.ex e⟩
theorem PrT.in {K : PySem.W.Frag} {H : Hp} {L : List (Nat × Nat)} {xs : List V} (h : PrT H L xs) : PrIn K H L xs := Paired.mapP h fun p v ⟨b, h1, h2⟩ => ⟨b, h1, .inl (SqT.of h2)⟩
def ShIn (K : PySem.W.Frag) (H : Hp) (L : List (Nat × Nat)) (v : V) : Prop := ∃ a xs, v = .ref a ∧ SqE K H a xs ∧ PrIn K H L xs
theorem ShIn.ex {K : PySem.W.Frag} {H H' : Hp} {L : List (Nat × Nat)} {v : V} (h : ShIn K H L v) (e : Ex H H') : ShIn K H' L v := by
  obtain ⟨a, xs, h1, h2, h3⟩ := h
  exact ⟨a, xs, h1, h2.ex e, h3.ex e⟩
theorem ShIn.of {K : PySem.W.Frag} {H : Hp} {L : List (Nat × Nat)} {p : Addr} {xs : List V} (h : H p = some (.tup xs)) (q : PrT H L xs) : ShIn K H L (.ref p) := ⟨p, xs, rfl, .inl (SqT.of h), q.in⟩
theorem test_then {tt : TT} {te : TE} {σ : L2.St} {H : Hp} {b : Bool} {Qy : VK} {Qn : Hp → Prop} (ht : EvT tt σ H b) (h1 : b = true → ∀ H1, Ex H H1 → te σ H1 Qy) (h2 : b = false → ∀ H1, Ex H H1 → Qn H1) :
    tt σ H fun b H3 => if b = true then te σ H3 Qy else Qn H3 := ht H (Ex.refl H) _ fun H1 e => by
  cases b with
  | true =>
    rw [if_pos rfl]
    exact h1 rfl H1 e
  | false =>
    rw [if_neg Bool.false_ne_true]
    exact h2 rfl H1 e
end Pu
namespace Pu
open PySem PySem.Spec PyProof.Rows L2 GxR Evl
/-- all kept but the table at T, which may have grown -/
def ExT (T : Addr) (H H' : Hp) : Prop := TabG H' T ∧ ∀ b o, b ≠ T → H b = some o → H' b = some o
theorem ExT.of_tab {T : Addr} {H H' : Hp} (t : Tabbed T H H') : ExT T H H' := ⟨t.1, fun b o hb e => by rw [t.2 b hb]; exact e⟩
theorem TabG.ex {T : Addr} {H H' : Hp} (t : TabG H T) (e : Ex H H') : TabG H' T := by
  obtain ⟨ps, h, r⟩ := t
  exact ⟨ps, e _ _ h, r⟩
theorem ExT.ex {T : Addr} {H H1 H2 : Hp} (a : ExT T H H1) (e : Ex H1 H2) : ExT T H H2 := ⟨TabG.ex a.1 e, fun b o hb h => e _ _ (a.2 b o hb h)⟩
theorem ExT.ex' {T : Addr} {H H1 H2 : Hp} (e : Ex H H1) (a : ExT T H1 H2) : ExT T H H2 := ⟨a.1, fun b o hb h => a.2 b o hb (e _ _ h)⟩
theorem ExT.refl {T : Addr} {H : Hp} (t : TabG H T) : ExT T H H := ⟨t, fun _ _ _ h => h⟩
theorem ExT.trans {T : Addr} {H H1 H2 : Hp} (a : ExT T H H1) (b : ExT T H1 H2) : ExT T H H2 := ⟨b.1, fun c o hc h => b.2 c o hc (a.2 c o hc h)⟩
theorem ExT.fresh {T : Addr} {H H' : Hp} {p : Addr} (t : TabG H T) (a : ExT T H H') (h : H' p = none) : H p = none := by
  cases e : H p with
  | none => rfl
  | some o =>
    by_cases z : p = T
    · obtain ⟨ps, q, _⟩ := a.1
      rw [z, q] at h
      cases h
    · rw [a.2 p o z e] at h
      cases h
theorem TabG.ne {T a : Addr} {H : Hp} {o : HO} (t : TabG H T) (h : H a = some o) (n : ∀ ps, o ≠ .tbl ps) : a ≠ T := fun z => by
  obtain ⟨ps, q, _⟩ := t
  rw [z, q] at h
  exact n ps (Option.some.inj h).symm
theorem rd_exT {T a : Addr} {H H' : Hp} {u : HO} (t : TabG H T) (e : ExT T H H') (n : ∀ ps, u ≠ .tbl ps) (h : Rd H a u) : Rd H' a u := by
  rcases h with h | ⟨o, h⟩
  · exact .inl (e.2 _ _ (TabG.ne t h n) h)
  · exact .inr ⟨o, e.2 _ _ (TabG.ne t h fun ps z => by cases z) h⟩
theorem SqT.exT {K : PySem.W.Frag} {T a : Addr} {H H' : Hp} {xs : List V} (t : TabG H T) (e : ExT T H H') (q : SqT K H a xs) : SqT K H' a xs := q.imp (rd_exT t e fun ps z => by cases z) id
theorem SqL.exT {K : PySem.W.Frag} {T a : Addr} {H H' : Hp} {xs : List V} (t : TabG H T) (e : ExT T H H') (q : SqL K H a xs) : SqL K H' a xs := q.imp (rd_exT t e fun ps z => by cases z) id
theorem SqE.exT {K : PySem.W.Frag} {T a : Addr} {H H' : Hp} {xs : List V} (t : TabG H T) (e : ExT T H H') (q : SqE K H a xs) : SqE K H' a xs := q.imp (SqT.exT t e) (SqL.exT t e)
theorem PrIn.exT {K : PySem.W.Frag} {T : Addr} {H H' : Hp} {L : List (Nat × Nat)} {xs : List V} (t : TabG H T) (e : ExT T H H') (h : PrIn K H L xs) : PrIn K H' L xs := Paired.mapP h fun p v ⟨b, h1, h2⟩ => ⟨b, h1, h2.exT t e⟩
theorem PrT.exT {T : Addr} {H H' : Hp} {L : List (Nat × Nat)} {xs : List V} (t : TabG H T) (e : ExT T H H') (h : PrT H L xs) : PrT H' L xs := Paired.mapP h fun p v ⟨b, h1, h2⟩ => ⟨b, h1, e.2 _ _ (TabG.ne t h2 fun ps z => by cases z) h2⟩
theorem ShIn.exT {K : PySem.W.Frag} {T : Addr} {H H' : Hp} {L : List (Nat × Nat)} {v : V} (t : TabG H T) (e : ExT T H H') (h : ShIn K H L v) : ShIn K H' L v := by
  obtain ⟨a, xs, h1, h2, h3⟩ := h
  exact ⟨a, xs, h1, h2.exT t e, h3.exT t e⟩
/-- pairs of numbers, each a tuple that is read -/
def PrS (K : PySem.W.Frag) (H : Hp) (L : List (Nat × Nat)) (xs : List V) : Prop := Paired (fun (p : Nat × Nat) (v : V) => ∃ b, v = .ref b ∧ SqT K H b [.int (p.1 : Nat), .int (p.2 : Nat)]) L xs
theorem PrS.ex {K : PySem.W.Frag} {H H' : Hp} {L : List (Nat × Nat)} {xs : List V} (h : PrS K H L xs) (e : Ex H H') : PrS K H' L xs := Paired.mapP h fun p v ⟨b, h1, h2⟩ => ⟨b, h1, ex_t e h2⟩
theorem SqT.upd {K : PySem.W.Frag} {H : Hp} {b D : Addr} {xs ys : List V} {o : HO} (h : SqT K H b xs) (hD : H D = some (.lst ys)) : SqT K (upd H D o) b xs := by
  rcases h with (h | ⟨u, h⟩) | h
  · exact .inl (.inl (by rw [upd_ne (ne_of h hD (by intro z; cases z))]; exact h))
  · exact .inl (.inr ⟨u, by rw [upd_ne (ne_of h hD (by intro z; cases z))]; exact h⟩)
  · exact .inr h
theorem PrS.upd {K : PySem.W.Frag} {H : Hp} {L : List (Nat × Nat)} {xs ys : List V} {D : Addr} {o : HO} (h : PrS K H L xs) (hD : H D = some (.lst ys)) : PrS K (upd H D o) L xs := Paired.mapP h fun p v ⟨b, h1, h2⟩ => ⟨b, h1, SqT.upd h2 hD⟩
theorem PrS.in {K : PySem.W.Frag} {H : Hp} {L : List (Nat × Nat)} {xs : List V} (h : PrS K H L xs) : PrIn K H L xs := Paired.mapP h fun p v ⟨b, h1, h2⟩ => ⟨b, h1, .inl h2⟩
theorem PrT.s {K : PySem.W.Frag} {H : Hp} {L : List (Nat × Nat)} {xs : List V} (h : PrT H L xs) : PrS K H L xs := Paired.mapP h fun p v ⟨b, h1, h2⟩ => ⟨b, h1, SqT.of h2⟩
/-- pairs as data -/
def dPair (p : Nat × Nat) : PyData := .tuple [.int (p.1 : Nat), .int (p.2 : Nat)]
def dShape (L : List (Nat × Nat)) : PyData := .tuple (L.map dPair)
theorem dpPairs {K : PySem.W.Frag} {H : Hp} : ∀ {L : List (Nat × Nat)} {xs : List V}, PrS K H L xs → DpAll K H xs (L.map dPair)
  | _, _, .nil => .nil
  | _, _, .cons ⟨b, e, h⟩ t => by
    subst e
    exact .cons (.tup h (.cons (.int _) (.cons (.int _) .nil))) (dpPairs t)
theorem dpShape {K : PySem.W.Frag} {H : Hp} {a : Addr} {L : List (Nat × Nat)} {xs : List V} (h : SqT K H a xs) (q : PrS K H L xs) : Dp K H (.ref a) (dShape L) := .tup h (dpPairs q)
theorem pairs_lay : ∀ L : List (Nat × Nat), PyData.canLayAll0 (L.map dPair) = true
  | [] => rfl
  | p :: L => by
    show ((PyData.canLay0 (.int (p.1 : Nat)) && (PyData.canLay0 (.int (p.2 : Nat)) && PyData.canLayAll0 [])) && PyData.canLayAll0 (L.map dPair)) = true
    rw [pairs_lay L]
    rfl
theorem pairs_depth : ∀ L : List (Nat × Nat), PyData.depthAll (L.map dPair) ≤ 1
  | [] => Nat.zero_le _
  | p :: L => by
    show max (PyData.depth (dPair p)) (PyData.depthAll (L.map dPair)) ≤ 1
    exact Nat.max_le.mpr ⟨Nat.le_refl 1, pairs_depth L⟩
theorem shape_shaped (L : List (Nat × Nat)) : SeqAt.shaped (dShape L) = true := by
  have h1 : PyData.canLay0 (dShape L) = true := pairs_lay L
  have h2 : PyData.depth (dShape L) ≤ 64 := by
    show PyData.depthAll (L.map dPair) + 1 ≤ 64
    have := pairs_depth L
    omega
  unfold SeqAt.shaped
  rw [h1, decide_eq_true h2]
  rfl
theorem pairs_eqv : ∀ L : List (Nat × Nat), PyData.eqvAll (L.map dPair) (L.map dPair) = true
  | [] => rfl
  | p :: L => by
    show (PyData.eqv (dPair p) (dPair p) && PyData.eqvAll (L.map dPair) (L.map dPair)) = true
    rw [pairs_eqv L]
    simp [dPair, PyData.eqv, PyData.eqvAll]
theorem shape_eqv (L : List (Nat × Nat)) : PyData.eqv (dShape L) (dShape L) = true := by
  show PyData.eqv (.tuple _) (.tuple _) = true
  rw [PyData.eqv]
  exact pairs_eqv L
/-- tuple(x) -/
def rTupleOf (K : PySem.W.Frag) (xs : List V) (H : Hp) (Q : VK) : Prop := ∃ p ys, xs = [.ref p] ∧ ((SqL K H p ys ∧ ∀ l, H l = none → Q (.ref l) (upd H l (.tup ys))) ∨ (SqT K H p ys ∧ Q (.ref p) H))
/-- a tracked tuple or list at a heap that keeps all but the table -/
theorem seq_at {P : Program} {w : World} {K : PySem.W.Frag} {H1 : Hp} {g : Heap} {T b : Addr} {xs : List V} (t : TabG H1 T) (ok : ∀ c ho, c ≠ T → H1 c = some ho → ObjOk P w H1 g c ho) (kin : K.In g) (q : SqE K H1 b xs) : ∃ (bb : Bool) (its : List Value), Vals xs its ∧ SeqG g bb b its := by
  have rd : ∀ {u : HO}, Rd H1 b u → (∀ ps, u ≠ .tbl ps) → ObjOk P w H1 g b u := fun {u} h n => by
    rcases h with h | ⟨o, h⟩
    · exact ok b _ (TabG.ne t h n) h
    · exact (ok b _ (TabG.ne t h fun ps z => by cases z) h).2
  rcases q with (q | ⟨o, its, n, hk, hc, hs, hz, r⟩) | (q | ⟨o, its, n, hk, hc, hd, hs, hz, r⟩)
  · obtain ⟨z, its, r, p⟩ := rd q fun ps z => by cases z
    exact ⟨true, its, r, by rw [← r.length]; exact z, p⟩
  · exact ⟨true, its.toList, r, by simpa using hz, o, kin b o hk, hc, n, by simpa using hs⟩
  · obtain ⟨z, its, n, r, e⟩ := rd q fun ps z => by cases z
    exact ⟨false, its, r, by rw [← r.length]; exact z, _, n, e, rfl, rfl, rfl⟩
  · exact ⟨false, its.toList, r, by simpa using hz, o, n, kin b o hk, hc, hd, by simpa using hs⟩
theorem GenS.of {env : Env} {sc : Scope} {x : Str} (h1 : sc.kind = .function) (h2 : sc.isCoroutine = false) (h3 : ∀ y ∈ sc.names, y.2 ≠ .cell) (h4 : sc.names.lookup (".0" : Str) = some NameKind.local) (h5 : sc.names.lookup x = some .local) (h6 : ∀ y ∈ sc.names, y.2 ≠ .free) :
    GenS env sc x := ⟨h1, h2, h3, h4, h5, fun y hy e => absurd e (h6 y hy)⟩
theorem PrS.snoc {K : PySem.W.Frag} {H : Hp} {L : List (Nat × Nat)} {xs : List V} {p : Nat × Nat} {b : Addr} (h : PrS K H L xs) (e : SqT K H b [.int (p.1 : Nat), .int (p.2 : Nat)]) : PrS K H (L ++ [p]) (xs ++ [.ref b]) := Paired.app h (.cons ⟨b, rfl, e⟩ .nil)
theorem q_ifOrF {t u : TT} {tu tw tz : TS} {D : Ends} {σ : L2.St} {H : Hp} (h1 : EvT t σ H false) (h2 : ∀ H1, Ex H H1 → u σ H1 fun b H2 => if b = true then tu { D with nx := tz D } σ H2 else tw { D with nx := tz D } σ H2) :
    tSeq (tIfS (tOr t u) tu tw) tz D σ H := h1 H (Ex.refl H) _ fun H1 e => by
  rw [if_neg (by decide)]
  exact h2 H1 e
end Pu
namespace Pu
open PySem PySem.Spec PyProof.Rows L2 GxR Evl
theorem rc_abs {i : Int} {H : Hp} : RC (fun xs H Q => ∃ i, xs = [V.int i] ∧ Q (.int (if i < 0 then -i else i)) H) [.int i] H (.int (if i < 0 then -i else i)) := fun H1 _ Q q => ⟨i, rfl, q H1 (Ex.refl H1)⟩
theorem rc_int {i : Int} {H : Hp} : RC (fun xs H Q => (∃ i, xs = [V.int i] ∧ Q (.int i) H) ∨ ∃ k, xs = [.bl k] ∧ Q (.int (if k then 1 else 0)) H) [.int i] H (.int i) := fun H1 _ Q q => .inl ⟨i, rfl, q H1 (Ex.refl H1)⟩
theorem rc_lenL {K : PySem.W.Frag} {H : Hp} {a : Addr} {xs : List V} (h : SqL K H a xs) : RC (fun ys H Q => ∃ x n, ys = [x] ∧ LenV K x H n ∧ Q (.int n) H) [.ref a] H (.int (xs.length : Int)) := fun H1 e Q q => ⟨_, _, rfl, .inl ⟨xs, ex_l e h, rfl⟩, q H1 (Ex.refl H1)⟩
def BoxAt (H : Hp) (p : Addr) : Prop := ∃ g s : Int, H p = some (.lst [.int g, .int s]) ∧ 0 ≤ g ∧ 0 ≤ s
theorem BoxAt.ex {H H' : Hp} {p : Addr} (h : BoxAt H p) (e : Ex H H') : BoxAt H' p := by
  obtain ⟨g, s, h1, h2⟩ := h
  exact ⟨g, s, e _ _ h1, h2⟩
def ExB (p : Addr) (H H' : Hp) : Prop := BoxAt H' p ∧ ∀ b o, b ≠ p → H b = some o → H' b = some o
def spBox (K : PySem.W.Frag) (ns : List Int) : Sp := fun vs H Q _ => ∃ (a : Addr) (k : Nat), vs = [.ref a, .int k] ∧ SqL K H a (ns.map V.int) ∧ ns.length ≤ 100 ∧ k ≤ 1000 ∧ ∀ p H', H p = none → Ex H H' → BoxAt H' p → Q (.ref p) H'
def spTake : Sp := fun vs H Q _ => ∃ (p : Addr) (m : Nat), vs = [.ref p, .int m] ∧ 1 ≤ m ∧ m ≤ 100000 ∧ BoxAt H p ∧ ∀ (d : Nat) H', d < m → ExB p H H' → Q (.int d) H'
def spPick : Sp := fun vs H Q _ => ∃ (p q : Addr) (ys : List V), vs = [.ref p, .ref q] ∧ BoxAt H p ∧ H q = some (.lst ys) ∧ q ≠ p ∧ 1 ≤ ys.length ∧ ys.length ≤ 1000 ∧ ∀ v H', v ∈ ys → ExB p H H' → Q v H'
theorem ExB.of {p : Addr} {H H2 H4 : Hp} {g s : Int} (e : Ex H H2) (e4 : Ex (upd H2 p (.lst [.int g, .int s])) H4) (hg : 0 ≤ g) (hs : 0 ≤ s) : ExB p H H4 :=
  ⟨⟨g, s, e4 _ _ upd_same, hg, hs⟩, fun b o hb h => e4 _ _ (by rw [upd_ne hb]; exact e _ _ h)⟩
theorem mod_nat (g : Int) {m : Nat} (h : 1 ≤ m) : ∃ d : Nat, g % (m : Int) = d ∧ d < m := by
  have h0 : 0 ≤ g % (m : Int) := Int.emod_nonneg _ (by omega)
  have h1 : g % (m : Int) < m := Int.emod_lt_of_pos _ (by omega)
  exact ⟨(g % (m : Int)).toNat, by omega, by omega⟩
theorem q_ifSet {t t' : TT} {te te' : TE} {tz : TS} {D : Ends} {σ : L2.St} {H : Hp} {b b' : Bool} {i : Nat} {c0 : Int} (Pc : Int → Prop) (h : EvT t σ H b) (h1 : b = true → ∃ c, Pc c ∧ Ev te σ H (.int c)) (h' : b = false → EvT t' σ H b') (h2 : b = false → b' = true → ∃ c, Pc c ∧ Ev te' σ H (.int c)) (h3 : Pc c0 ∧ σ.set i (some (.int c0)) = σ)
    (k : ∀ c H1, Pc c → Ex H H1 → tz D (σ.set i (some (.int c))) H1) : tSeq (tIfS t (tAsg te (gName i)) (tIfS t' (tAsg te' (gName i)) tNext)) tz D σ H := by
  refine s_if (D := { D with nx := tz D }) h (fun z H1 e1 => ?_) (fun z H1 e1 => ?_)
  · obtain ⟨c, hc, v⟩ := h1 z
    exact v H1 e1 _ fun H2 e2 => k c H2 hc (e1.trans e2)
  · refine h' z H1 e1 _ fun H2 e2 => ?_
    refine ite2 (fun y => ?_) fun _ => ?_
    · obtain ⟨c, hc, v⟩ := h2 z y
      exact v H2 (e1.trans e2) _ fun H3 e3 => k c H3 hc ((e1.trans e2).trans e3)
    · have q := k c0 H2 h3.1 (e1.trans e2)
      rw [h3.2] at q
      exact q
theorem lt_log {m : Nat} (h : m ≤ 100000) : (m : Int).natAbs.log2 < 9000 := by
  have z : m < 2 ^ 20 := Nat.lt_of_le_of_lt h (by decide)
  have y := PySem.Flt.log2_lt_of (by decide) (show (m : Int).natAbs < 2 ^ 20 by rw [Int.natAbs_natCast]; exact z)
  omega
theorem ev_int1 {ta : TE} {σ : L2.St} {H : Hp} {i : Int} (h : Ev ta σ H (.int i)) : Ev (tCB (fun xs H Q => (∃ i, xs = [V.int i] ∧ Q (.int i) H) ∨ ∃ k, xs = [.bl k] ∧ Q (.int (if k then 1 else 0)) H) (tCons ta tNil)) σ H (.int i) := ev_cb (Evl.ea_cons h Evl.ea_nil) rc_int
theorem ev_lenL {K : PySem.W.Frag} {ta : TE} {σ : L2.St} {H : Hp} {a : Addr} {xs : List V} (h : Ev ta σ H (.ref a)) (q : SqL K H a xs) : Ev (tCB (fun ys H Q => ∃ x n, ys = [x] ∧ LenV K x H n ∧ Q (.int n) H) (tCons ta tNil)) σ H (.int (xs.length : Int)) := ev_cb (Evl.ea_cons h Evl.ea_nil) (rc_lenL q)
end Pu
namespace Pu
open PySem PySem.Spec PyProof.Rows L2 GxR Evl
/-- list(x) -/
def rListOf (K : PySem.W.Frag) (xs : List V) (H : Hp) (Q : VK) : Prop := ∃ p ys, xs = [.ref p] ∧ (SqL K H p ys ∨ SqT K H p ys) ∧ ∀ l, H l = none → Q (.ref l) (upd H l (.lst ys))
/-- a statement told by what holds ahead of it and behind it -/
def Tr (X : Cx) (st : Stmt) (A B : L2.St → Hp → Prop) : Prop := ∃ t, PS X st t ∧ ∀ D σ H, A σ H → (∀ σ' H', B σ' H' → D.nx σ' H') → t D σ H
def Trs (X : Cx) (l : List Stmt) (A B : L2.St → Hp → Prop) : Prop := ∃ t, PSs X l t ∧ ∀ D σ H, A σ H → (∀ σ' H', B σ' H' → D.nx σ' H') → t D σ H
theorem Trs.cons {X : Cx} {st : Stmt} {l : List Stmt} {A B C : L2.St → Hp → Prop} (h : Tr X st A B) (k : Trs X l B C) : Trs X (st :: l) A C := by
  obtain ⟨t, h1, h2⟩ := h
  obtain ⟨u, k1, k2⟩ := k
  exact ⟨_, pss_cons h1 k1, fun D σ H a q => h2 { D with nx := u D } σ H a fun σ' H' b => k2 D σ' H' b q⟩
theorem Trs.one {X : Cx} {st : Stmt} {A B : L2.St → Hp → Prop} (h : Tr X st A B) : Trs X [st] A B := by
  obtain ⟨t, h1, h2⟩ := h
  exact ⟨_, pss_one h1, h2⟩
theorem Trs.pre {X : Cx} {l : List Stmt} {A A' B : L2.St → Hp → Prop} (h : Trs X l A B) (e : ∀ σ H, A' σ H → A σ H) : Trs X l A' B := by
  obtain ⟨t, h1, h2⟩ := h
  exact ⟨t, h1, fun D σ H a q => h2 D σ H (e σ H a) q⟩
/-- slots -/
theorem sl_ne {σ : L2.St} {i j : Nat} {v : Option V} {x : V} (h : σ[j]? = some (some x)) (n : i ≠ j) : (σ.set i v)[j]? = some (some x) := by rw [List.getElem?_set_ne n]; exact h
theorem sl_eq {σ : L2.St} {i : Nat} {v : V} (h : i < σ.length) : (σ.set i (some v))[i]? = some (some v) := List.getElem?_set_self h
/-- the arguments by their names, put in the told order -/
def perm {α : Type} (is : List Nat) (l : List α) : List α := if l.length = is.length then is.filterMap (fun i => l[i]?) else []
theorem filt_rel {zs : List V} {ws : List Value} (h : Vals zs ws) : ∀ is : List Nat, Vals (is.filterMap fun i => zs[i]?) (is.filterMap fun i => ws[i]?)
  | [] => .nil
  | i :: is => by
    rw [List.filterMap_cons, List.filterMap_cons]
    cases e : zs[i]? with
    | none =>
      have e2 : ws[i]? = none := by
        rw [List.getElem?_eq_none_iff] at e ⊢
        rw [← h.length]
        exact e
      rw [e2]
      exact filt_rel h is
    | some z =>
      obtain ⟨u, hu, r⟩ := h.get e
      rw [hu]
      exact .cons r (filt_rel h is)
theorem perm_rel {is : List Nat} {zs : List V} {ws : List Value} (h : Vals zs ws) : Vals (perm is zs) (perm is ws) := by
  unfold perm
  rw [h.length]
  split
  · exact filt_rel h is
  · exact .nil
theorem kwOk {K : PySem.W.Frag} {fd : FuncData} {ps ks : List Str} {is : List Nat} (h : ∀ ws : List Value, ws.length = is.length → bindArgs fd ⟨[], ks.zip ws⟩ = pure (ps.zip (perm is ws))) (hn : 0 < ps.length) : KwOk K fd ps ks (perm is) (perm is) := by
  refine ⟨fun s ws _ hl => ?_, perm_rel⟩
  refine .of_eq (h ws ?_)
  unfold perm at hl
  split at hl
  · assumption
  · rw [List.length_nil] at hl
    omega
/-- the script stays what it is as long as only p and T change -/
def Scr (K : PySem.W.Frag) (T p a : Addr) (ns : List Int) (H : Hp) : Prop := ∀ H', (∀ b o, b ≠ p → b ≠ T → H b = some o → H' b = some o) → SqL K H' a (ns.map V.int)
structure Hs (K : PySem.W.Frag) (T a : Addr) (ns : List Int) (p : Addr) (H : Hp) : Prop where
  tab : TabG H T
  box : BoxAt H p
  scr : Scr K T p a ns H
/-- a step that changes but the box and the table -/
structure Stp (T p : Addr) (H H' : Hp) : Prop where
  tab : TabG H' T
  box : BoxAt H' p
  kp : ∀ b o, b ≠ p → b ≠ T → H b = some o → H' b = some o
variable {K : PySem.W.Frag} {T a p : Addr} {ns : List Int} {H H' H2 : Hp}
theorem BoxAt.ne (h : BoxAt H p) (t : TabG H T) : p ≠ T := by
  obtain ⟨g, s, h1, _⟩ := h
  exact TabG.ne t h1 fun ps z => by cases z
theorem Hs.ex (h : Hs K T a ns p H) (e : Ex H H') : Stp T p H H' := ⟨TabG.ex h.tab e, h.box.ex e, fun b o _ _ q => e b o q⟩
theorem Hs.exT (h : Hs K T a ns p H) (e : ExT T H H') : Stp T p H H' := by
  refine ⟨e.1, ?_, fun b o _ n q => e.2 b o n q⟩
  obtain ⟨g, s, h1, h2⟩ := h.box
  exact ⟨g, s, e.2 _ _ (h.box.ne h.tab) h1, h2⟩
theorem Hs.exB (h : Hs K T a ns p H) (e : ExB p H H') : Stp T p H H' := by
  refine ⟨?_, e.1, fun b o n _ q => e.2 b o n q⟩
  obtain ⟨ps, h1, h2⟩ := h.tab
  exact ⟨ps, e.2 _ _ (fun z => h.box.ne h.tab z.symm) h1, h2⟩
theorem Hs.step (h : Hs K T a ns p H) (s : Stp T p H H') : Hs K T a ns p H' := ⟨s.tab, s.box, fun H'' q => h.scr H'' fun b o n m e => q b o n m (s.kp b o n m e)⟩
theorem Stp.trans (s : Stp T p H H') (u : Stp T p H' H2) : Stp T p H H2 := ⟨u.tab, u.box, fun b o n m e => u.kp b o n m (s.kp b o n m e)⟩
theorem Hs.scrL (h : Hs K T a ns p H) : SqL K H a (ns.map V.int) := h.scr H fun _ _ _ _ e => e
theorem Hs.ofNew (t : TabG H T) (s : SqL K H a (ns.map V.int)) (n : H p = none) (e : Ex H H') (b : BoxAt H' p) : Hs K T a ns p H' := by
  refine ⟨TabG.ex t e, b, fun H'' q => ?_⟩
  refine s.imp (fun s => ?_) id
  rcases s with s | ⟨o, s⟩
  · exact .inl (q _ _ (fun z => by rw [z, n] at s; cases s) (TabG.ne t s fun ps z => by cases z) (e _ _ s))
  · exact .inr ⟨o, q _ _ (fun z => by rw [z, n] at s; cases s) (TabG.ne t s fun ps z => by cases z) (e _ _ s)⟩
theorem Hs.renew {p' : Addr} (h : Hs K T a ns p H) (n : H p' = none) (e : Ex H H') (b : BoxAt H' p') : Hs K T a ns p' H' := Hs.ofNew h.tab h.scrL n e b
theorem Stp.tup (h : Hs K T a ns p H) (s : Stp T p H H') {b : Addr} {xs : List V} (e : H b = some (.tup xs)) : H' b = some (.tup xs) := by
  obtain ⟨g, s', h1, _⟩ := h.box
  exact s.kp _ _ (fun z => by rw [z, h1] at e; cases e) (TabG.ne h.tab e fun ps z => by cases z) e
theorem Stp.prT (h : Hs K T a ns p H) (s : Stp T p H H') {L : List (Nat × Nat)} {xs : List V} (q : PrT H L xs) : PrT H' L xs := Paired.mapP q fun _ _ ⟨b, h1, h2⟩ => ⟨b, h1, s.tup h h2⟩
theorem Stp.lst (h : Hs K T a ns p H) (s : Stp T p H H') {b : Addr} {xs : List V} (n : b ≠ p) (e : H b = some (.lst xs)) : H' b = some (.lst xs) := s.kp _ _ n (TabG.ne h.tab e fun ps z => by cases z) e
theorem Hs.fresh (h : Hs K T a ns p H) (s : Stp T p H H') {b : Addr} (e : H' b = none) : H b = none := by
  cases z : H b with
  | none => rfl
  | some o =>
    obtain ⟨g, s', h1, _⟩ := s.box
    obtain ⟨ps, h2, _⟩ := s.tab
    by_cases q : b = p
    · rw [q, h1] at e; cases e
    · by_cases r : b = T
      · rw [r, h2] at e; cases e
      · rw [s.kp b o q r z] at e; cases e
end Pu
namespace Pu
open PySem PySem.Spec PyProof.Rows L2 GxR Evl
/-- data that is small enough to be shown -/
structure Sm (n m : Nat) (d : PyData) : Prop where
  dp : PyData.depth d ≤ n
  bk : PyData.bulk d ≤ m
  lf : PyData.leavesShort 13 d = true
  sh : PyData.showable d = true
  nd : PyData.hasDict d = false
theorem Sm.none : Sm 0 0 .none := ⟨Nat.le_refl _, Nat.le_refl _, rfl, rfl, rfl⟩
theorem Sm.int {i : Nat} (h : i ≤ 1000000) : Sm 0 0 (.int (i : Int)) := by
  refine ⟨Nat.le_refl _, Nat.le_refl _, ?_, ?_, rfl⟩
  · show decide _ = true
    exact decide_eq_true (PyData.shown_int_le (by rw [Int.natAbs_natCast]; exact Nat.lt_of_le_of_lt h (by decide)))
  · show decide _ = true
    refine decide_eq_true ?_
    rw [Int.natAbs_natCast]
    exact Nat.lt_of_lt_of_le (PySem.Flt.log2_lt_of (by decide) (Nat.lt_of_le_of_lt h (by decide : 1000000 < 2 ^ 20))) (by decide)
theorem Sm.mono {n m n' m' : Nat} {d : PyData} (s : Sm n m d) (h : n ≤ n') (k : m ≤ m') : Sm n' m' d := ⟨Nat.le_trans s.dp h, Nat.le_trans s.bk k, s.lf, s.sh, s.nd⟩
theorem sm_all {n m : Nat} : ∀ {ds : List PyData}, (∀ d ∈ ds, Sm n m d) → PyData.depthAll ds ≤ n ∧ PyData.bulkAll ds ≤ ds.length * (m + 1) ∧ PyData.leavesShortAll 13 ds = true ∧ PyData.showableAll ds = true ∧ PyData.hasDictAll ds = false
  | [], _ => ⟨Nat.zero_le _, Nat.zero_le _, rfl, rfl, rfl⟩
  | d :: ds, h => by
    obtain ⟨h1, h2, h3, h4, h5⟩ := sm_all (ds := ds) fun x hx => h x (List.mem_cons_of_mem _ hx)
    have s := h d (List.mem_cons_self ..)
    refine ⟨?_, ?_, ?_, ?_, ?_⟩
    · show max (PyData.depth d) (PyData.depthAll ds) ≤ n
      exact Nat.max_le.mpr ⟨s.dp, h1⟩
    · show PyData.bulk d + 1 + PyData.bulkAll ds ≤ (ds.length + 1) * (m + 1)
      have := s.bk
      rw [Nat.add_mul]
      omega
    · show (PyData.leavesShort 13 d && PyData.leavesShortAll 13 ds) = true
      rw [s.lf, h3]
      rfl
    · show (PyData.showable d && PyData.showableAll ds) = true
      rw [s.sh, h4]
      rfl
    · show (PyData.hasDict d || PyData.hasDictAll ds) = false
      rw [s.nd, h5]
      rfl
theorem Sm.tup {n m c : Nat} {ds : List PyData} (h : ∀ d ∈ ds, Sm n m d) (hc : ds.length ≤ c) : Sm (n + 1) (c * (m + 1)) (.tuple ds) := by
  obtain ⟨h1, h2, h3, h4, h5⟩ := sm_all h
  exact ⟨Nat.succ_le_succ h1, Nat.le_trans h2 (Nat.mul_le_mul_right _ hc), h3, h4, h5⟩
theorem Sm.lst {n m c : Nat} {ds : List PyData} (h : ∀ d ∈ ds, Sm n m d) (hc : ds.length ≤ c) : Sm (n + 1) (c * (m + 1)) (.list ds) := by
  obtain ⟨h1, h2, h3, h4, h5⟩ := sm_all h
  exact ⟨Nat.succ_le_succ h1, Nat.le_trans h2 (Nat.mul_le_mul_right _ hc), h3, h4, h5⟩
theorem Sm.pair {p : Nat × Nat} (h : p.1 + p.2 ≤ 1000000) : Sm 1 2 (dPair p) := by
  refine Sm.tup (c := 2) (m := 0) (fun d hd => ?_) (Nat.le_refl _)
  rcases List.mem_cons.mp hd with z | hd
  · rw [z]; exact Sm.int (by omega)
  · rcases List.mem_cons.mp hd with z | hd
    · rw [z]; exact Sm.int (by omega)
    · cases hd
theorem Sm.shape {L : List (Nat × Nat)} (hl : L.length ≤ 1000) (h : ∀ p ∈ L, p.1 + p.2 ≤ 1000000) : Sm 2 3000 (dShape L) := by
  refine Sm.tup (c := 1000) (m := 2) (fun d hd => ?_) (by rw [List.length_map]; exact hl)
  obtain ⟨p, hp, rfl⟩ := List.mem_map.mp hd
  exact Sm.pair (h p hp)
theorem Sm.two {n m : Nat} {d e : PyData} (h : Sm n m d) (k : Sm n m e) : Sm (n + 1) (2 * (m + 1)) (.list [d, e]) := Sm.lst (fun x hx => by
  rcases List.mem_cons.mp hx with z | hx
  · rw [z]; exact h
  · rcases List.mem_cons.mp hx with z | hx
    · rw [z]; exact k
    · cases hx) (Nat.le_refl 2)
theorem Sm.d60 {n m : Nat} {d : PyData} (s : Sm n m d) (hn : n ≤ 60) : PyData.depth d ≤ 60 := Nat.le_trans s.dp hn
theorem Sm.len {n m : Nat} {d : PyData} (s : Sm n m d) (hm : m ≤ 1000000) : d.shown.length ≤ sizeLine := PyData.shown_fits_bulk (B := 13) (by decide) (by decide) s.lf (Nat.le_trans s.bk (Nat.le_trans hm (by decide)))
/-- repr of a list or a tuple that is small: a text -/
theorem rc_repr {K : PySem.W.Frag} {H : Hp} {v : V} {d : PyData} {n m : Nat} (h : Dp K H v d) (hd : isDisplay d = true) (s : Sm n m d) (hn : n ≤ 60) (hm : m ≤ 1000000) {Q : VK} (q : Q (.str d.shown) H) : rRepr K [v] H Q :=
  ⟨v, d, rfl, h, hd, s.sh, s.nd, Nat.le_trans s.dp hn, PyData.shown_fits_bulk (B := 13) (by decide) (by decide) s.lf (Nat.le_trans s.bk (Nat.le_trans hm (by decide))), q⟩
end Pu
set_option Elab.async false
set_option linter.all false
set_option maxRecDepth 100000
set_option maxHeartbeats 4000000
namespace K04
open PySem PySem.Spec PyProof.Rows L2 GxR Pu
def topS (i : Nat) : Stmt := PySem.Challenge.pw_farstory_k04_whole_all_stamps_of_chains.main.body.getD i (.Pass ⟨0, 0, 0, 0⟩)
abbrev sIsInteger : Stmt := topS 4
abbrev sIsNumber : Stmt := topS 5
abbrev sIsSequence : Stmt := topS 6
abbrev sIsOfParts : Stmt := topS 7
abbrev sNeedNumber : Stmt := topS 8
abbrev sAreSteps : Stmt := topS 12
abbrev sIsNon : Stmt := topS 13
abbrev sIsWindow : Stmt := topS 14
abbrev sAreWindows : Stmt := topS 15
abbrev sIsChain : Stmt := topS 16
abbrev sCheckChain : Stmt := topS 17
abbrev sFirstSteps : Stmt := topS 18
abbrev sWithin : Stmt := topS 19
abbrev sForward : Stmt := topS 20
abbrev sStretchesOf : Stmt := topS 21
abbrev sStamps : Stmt := topS 22
abbrev sLeastOf : Stmt := topS 23
abbrev sLeastChain : Stmt := topS 24
abbrev sLatestChain : Stmt := topS 25
abbrev sChainHolds : Stmt := topS 26
abbrev sChainThrough : Stmt := topS 27
abbrev sBox : Stmt := topS 29
abbrev sTake : Stmt := topS 30
abbrev sPick : Stmt := topS 31
abbrev sLawChain : Stmt := topS 32
abbrev sLawAll : Stmt := topS 33
abbrev sLaw : Stmt := topS 34
theorem scIsInteger : FnScope ["value"] ["value"] (defScope sIsInteger) := ⟨rfl, rfl, rfl, by decide +kernel, rfl, by decide +kernel, by decide +kernel⟩
theorem scIsNumber : FnScope ["value"] ["value"] (defScope sIsNumber) := ⟨rfl, rfl, rfl, by decide +kernel, rfl, by decide +kernel, by decide +kernel⟩
theorem scIsSequence : FnScope ["value"] ["value"] (defScope sIsSequence) := ⟨rfl, rfl, rfl, by decide +kernel, rfl, by decide +kernel, by decide +kernel⟩
theorem scIsOfParts : FnScope ["value", "many"] ["value", "many"] (defScope sIsOfParts) := ⟨rfl, rfl, rfl, by decide +kernel, rfl, by decide +kernel, by decide +kernel⟩

/-- the names of the module that the defs read -/
structure Mg (mg : Str → Option Value) : Prop where
  isinstance : mg "isinstance" = none
  int : mg "int" = none
  bool : mg "bool" = none
  list : mg "list" = none
  tuple : mg "tuple" = none
  len : mg "len" = none
  range : mg "range" = none
  enumerate : mg "enumerate" = none
  reversed : mg "reversed" = none
  all : mg "all" = none
  abs : mg "abs" = none
  max : mg "max" = none
  min : mg "min" = none
  set : mg "set" = none
  repr : mg "repr" = none

def isNum : V → Bool
  | .int i => decide (i ≥ 0)
  | _ => false
def isSeq : String → Bool := fun t => t == "tuple" || t == "list"
def pInteger : List V → Heap → V → Prop := fun vs g v => ∃ x t, vs = [x] ∧ TyG g x t ∧ v = .bl (t == "int")
def pNumber : List V → Heap → V → Prop := fun vs g v => ∃ x t, vs = [x] ∧ TyG g x t ∧ v = .bl (isNum x)
def pSequence : List V → Heap → V → Prop := fun vs g v => ∃ x t, vs = [x] ∧ TyG g x t ∧ v = .bl (isSeq t)
/-- the value's parts, if it has some -/
inductive PartsG (g : Heap) : V → Option Nat → Prop
  | seq {b : Bool} {a : Addr} {its : List Value} (h : SeqG g b a its) : PartsG g (.ref a) (some its.length)
  | no {x : V} {t : String} (h : TyG g x t) (n : isSeq t = false) : PartsG g x none
def pOfParts : List V → Heap → V → Prop := fun vs g v => ∃ (x : V) (n : Option Nat) (m : Int), vs = [x, .int m] ∧ PartsG g x n ∧ v = .bl (match n with | some k => decide ((k : Int) = m) | none => false)
/-- what is_stretch finds -/
inductive StG (g : Heap) : V → Bool → Prop
  | two {b : Bool} {a : Addr} {u0 u1 : Value} {x y : V} {t s : String} (h : SeqG g b a [u0, u1]) (r : RelV x u0) (r' : RelV y u1) (tx : TyG g x t) (ty : TyG g y s) : StG g (.ref a) (isNum x && isNum y)
  | len {b : Bool} {a : Addr} {its : List Value} (h : SeqG g b a its) (n : its.length ≠ 2) : StG g (.ref a) false
  | no {x : V} {t : String} (h : TyG g x t) (n : isSeq t = false) : StG g x false
def pStretch : List V → Heap → V → Prop := fun vs g v => ∃ x b, vs = [x] ∧ StG g x b ∧ v = .bl b
theorem StG.mono {g h : Heap} {x : V} {b : Bool} (y : StG g x b) (e : Ext g h) : StG h x b := by
  cases y with
  | two q r r' a b => exact .two (q.mono e) r r' (a.mono e) (b.mono e)
  | len q n => exact .len (q.mono e) n
  | no q n => exact .no (q.mono e) n
theorem PartsG.mono {g h : Heap} {x : V} {n : Option Nat} (y : PartsG g x n) (e : Ext g h) : PartsG h x n := by
  cases y with
  | seq q => exact .seq (q.mono e)
  | no q n => exact .no (q.mono e) n

section
variable {P : Program} {w : World} {K : PySem.W.Frag} {mg : Str → Option Value} {base : Heap}
theorem kitsI {g : Heap} {x : V} {t : String} (y : TyG g x t) : ∃ b1 b2, kitB t "int" = some b1 ∧ kitB t "bool" = some b2 ∧ (b1 && !b2) = (t == "int") := by
  cases y with
  | non => exact ⟨false, false, by decide +kernel, by decide +kernel, by decide⟩
  | bl b => exact ⟨true, true, by decide +kernel, by decide +kernel, by decide⟩
  | int i => exact ⟨true, false, by decide +kernel, by decide +kernel, by decide⟩
  | str x => exact ⟨false, false, by decide +kernel, by decide +kernel, by decide⟩
  | tup q => exact ⟨false, false, by decide +kernel, by decide +kernel, by decide⟩
  | lst q => exact ⟨false, false, by decide +kernel, by decide +kernel, by decide⟩
theorem kitsS {g : Heap} {x : V} {t : String} (y : TyG g x t) : PySem.W.kitAny K (.type t) (["list", "tuple"].map Value.type) = some (isSeq t) := by
  have two : ∀ b1 b2, kitB t "list" = some b1 → kitB t "tuple" = some b2 → PySem.W.kitAny K (.type t) (["list", "tuple"].map Value.type) = some (b1 || b2) := fun b1 b2 h1 h2 =>
    kitAny_cons (kit_ty h1) (fun e => kitAny_cons (kit_ty h2) (fun e2 => by rw [e, e2]; exact kitAny_nil) (fun e2 => by rw [e2]; simp)) (fun e => by rw [e]; rfl)
  cases y with
  | non => exact two false false (by decide +kernel) (by decide +kernel)
  | bl b => exact two false false (by decide +kernel) (by decide +kernel)
  | int i => exact two false false (by decide +kernel) (by decide +kernel)
  | str x => exact two false false (by decide +kernel) (by decide +kernel)
  | tup q => exact two false true (by decide +kernel) (by decide +kernel)
  | lst q => exact two true false (by decide +kernel) (by decide +kernel)

theorem pf_is_integer {f : Addr} {fd : FuncData} (M : L2.Mod K mg base) (G : Mg mg) (F : Fun K "is_integer" "is_integer" sIsInteger f fd) : PF P w K mg base 1 f fd ["value"] pInteger := by
  refine pf_ret M F scIsInteger rfl (by decide +kernel) (fun cdv A L g us vs v hr hx r hl h hn => ?_) fun vs g h v e q => ?_
  · obtain ⟨x, t, rfl, ty, rfl⟩ := h
    obtain ⟨u, rfl, ru⟩ := vals1 r
    obtain ⟨m, ns, hm⟩ := hn 0 "value" u rfl rfl
    have FR : FrP K mg base A (envOfC "is_integer" (defScope sIsInteger) L f cdv) g := ⟨M, hx, rfl, rfl, rfl, hr.hd⟩
    have val : ∀ {pos : Pos}, EV P w A (envOfC "is_integer" (defScope sIsInteger) L f cdv) g (.Name "value" pos) x := ev_loc FR rfl ns hm ru
    obtain ⟨b1, b2, h1, h2, e⟩ := kitsI ty
    rw [← e]
    exact ev_and (ev_isi FR rfl G.isinstance val ty rfl G.int (by decide +kernel) h1) fun _ => ev_one (ev_not (ev_isi FR rfl G.isinstance val ty rfl G.bool (by decide +kernel) h2))
  · obtain ⟨x, t, h1, h2, h3⟩ := q
    exact ⟨x, t, h1, h2.mono e, h3⟩
theorem pf_is_number {f f1 : Addr} {fd fd1 : FuncData} (M : L2.Mod K mg base) (G : Mg mg) (F : Fun K "is_number" "is_number" sIsNumber f fd) (F1 : Fun K "is_integer" "is_integer" sIsInteger f1 fd1) (b1 : Binds K fd1 ["value"] []) (m1 : mg "is_integer" = some (.ref f1)) :
    PF P w K mg base 2 f fd ["value"] pNumber := by
  have G1 : PF P w K mg base 1 f1 fd1 ["value"] pInteger := pf_is_integer M G F1
  refine pf_ret M F scIsNumber rfl (by decide +kernel) (fun cdv A L g us vs v hr hx r hl h hn => ?_) fun vs g h v e q => ?_
  · obtain ⟨x, t, rfl, ty, rfl⟩ := h
    obtain ⟨u, rfl, ru⟩ := vals1 r
    obtain ⟨m, ns, hm⟩ := hn 0 "value" u rfl rfl
    have FR : FrP K mg base A (envOfC "is_number" (defScope sIsNumber) L f cdv) g := ⟨M, hx, rfl, rfl, rfl, hr.hd⟩
    have val : ∀ {pos : Pos}, EV P w A (envOfC "is_number" (defScope sIsNumber) L f cdv) g (.Name "value" pos) x := ev_loc FR rfl ns hm ru
    have one : ∀ {p q pos : Pos}, EV P w A (envOfC "is_number" (defScope sIsNumber) L f cdv) g (.Call (.Name "is_integer" p) [.Name "value" q] [] pos) (.bl (t == "int")) := fun {p q pos} =>
      ev_pf FR G1 hr rfl m1 F1.kp b1 (ea_cons val ea_nil) rfl fun h e => ⟨x, t, rfl, ty.mono e, rfl⟩
    cases ty with
    | int i => exact ev_and (x := true) (y := decide (i ≥ 0)) one fun _ => ev_one (ev_ge val ev_int)
    | non => exact ev_and (x := false) (y := false) one fun h => nomatch h
    | bl b => exact ev_and (x := false) (y := false) one fun h => nomatch h
    | str s => exact ev_and (x := false) (y := false) one fun h => nomatch h
    | tup s => exact ev_and (x := false) (y := false) one fun h => nomatch h
    | lst s => exact ev_and (x := false) (y := false) one fun h => nomatch h
  · obtain ⟨x, t, h1, h2, h3⟩ := q
    exact ⟨x, t, h1, h2.mono e, h3⟩
theorem pf_is_sequence {f : Addr} {fd : FuncData} (M : L2.Mod K mg base) (G : Mg mg) (F : Fun K "is_sequence" "is_sequence" sIsSequence f fd) : PF P w K mg base 1 f fd ["value"] pSequence := by
  refine pf_ret M F scIsSequence rfl (by decide +kernel) (fun cdv A L g us vs v hr hx r hl h hn => ?_) fun vs g h v e q => ?_
  · obtain ⟨x, t, rfl, ty, rfl⟩ := h
    obtain ⟨u, rfl, ru⟩ := vals1 r
    obtain ⟨m, ns, hm⟩ := hn 0 "value" u rfl rfl
    have FR : FrP K mg base A (envOfC "is_sequence" (defScope sIsSequence) L f cdv) g := ⟨M, hx, rfl, rfl, rfl, hr.hd⟩
    exact ev_isiT (Ts := ["list", "tuple"]) FR rfl G.isinstance (ev_loc FR rfl ns hm ru) ty (ea_cons (ev_blt FR rfl G.list (by decide +kernel) rfl) (ea_cons (ev_blt FR rfl G.tuple (by decide +kernel) rfl) ea_nil)) (kitsS ty) (by decide)
  · obtain ⟨x, t, h1, h2, h3⟩ := q
    exact ⟨x, t, h1, h2.mono e, h3⟩
theorem pf_is_of_parts {f f1 : Addr} {fd fd1 : FuncData} (M : L2.Mod K mg base) (G : Mg mg) (F : Fun K "is_of_parts" "is_of_parts" sIsOfParts f fd) (F1 : Fun K "is_sequence" "is_sequence" sIsSequence f1 fd1) (b1 : Binds K fd1 ["value"] []) (m1 : mg "is_sequence" = some (.ref f1)) :
    PF P w K mg base 2 f fd ["value", "many"] pOfParts := by
  have G1 : PF P w K mg base 1 f1 fd1 ["value"] pSequence := pf_is_sequence M G F1
  refine pf_ret M F scIsOfParts rfl (by decide +kernel) (fun cdv A L g us vs v hr hx r hl h hn => ?_) fun vs g h v e q => ?_
  · obtain ⟨x, n, k, rfl, pt, rfl⟩ := h
    obtain ⟨u, u2, rfl, ru, ru2⟩ := vals2 r
    obtain ⟨m, ns, hm⟩ := hn 0 "value" u rfl rfl
    obtain ⟨m2, ns2, hm2⟩ := hn 1 "many" u2 rfl rfl
    have FR : FrP K mg base A (envOfC "is_of_parts" (defScope sIsOfParts) L f cdv) g := ⟨M, hx, rfl, rfl, rfl, hr.hd⟩
    have val : ∀ {pos : Pos}, EV P w A (envOfC "is_of_parts" (defScope sIsOfParts) L f cdv) g (.Name "value" pos) x := ev_loc FR rfl ns hm ru
    have one : ∀ {t : String} {p q pos : Pos}, TyG g x t → EV P w A (envOfC "is_of_parts" (defScope sIsOfParts) L f cdv) g (.Call (.Name "is_sequence" p) [.Name "value" q] [] pos) (.bl (isSeq t)) := fun {t p q pos} ty =>
      ev_pf FR G1 hr rfl m1 F1.kp b1 (ea_cons val ea_nil) rfl fun h e => ⟨x, t, rfl, ty.mono e, rfl⟩
    cases pt with
    | @seq b a its q =>
      have s1 : isSeq (if b = true then "tuple" else "list") = true := by cases b <;> rfl
      refine ev_and (x := true) (y := decide ((its.length : Int) = k)) ?_ fun _ => ev_one (ev_eqI (ev_len FR rfl G.len val q) (ev_loc FR rfl ns2 hm2 ru2))
      rw [← s1]
      exact one (TyG.seq q)
    | @no _ t ty hno =>
      refine ev_and (x := false) (y := false) ?_ fun h => nomatch h
      rw [← hno]
      exact one ty
  · obtain ⟨x, n, k, h1, h2, h3⟩ := q
    exact ⟨x, n, k, h1, h2.mono e, h3⟩
end
end K04
namespace K04
open PySem PySem.Spec PyProof.Rows L2 GxR Pu Evl
theorem scNeedNumber : FnScope ["value"] ["value"] (defScope sNeedNumber) := ⟨rfl, rfl, rfl, by decide +kernel, rfl, by decide +kernel, by decide +kernel⟩
/-- a promise of a value, of a new tuple -/
def spV (pre : List V → Hp → V → Prop) : Sp := fun vs H Q _ => ∃ v, pre vs H v ∧ ∀ H', Ex H H' → Q v H'
def spT (pre : List V → Hp → List V → Prop) : Sp := fun vs H Q _ => ∃ xs, pre vs H xs ∧ ∀ p H', H p = none → Ex H H' → H' p = some (.tup xs) → Q (.ref p) H'
theorem spV.use {pre : List V → Hp → V → Prop} {vs : List V} {H : Hp} {v : V} (h : ∀ H1, Ex H H1 → pre vs H1 v) : SpV (spV pre) vs H v := fun H1 e Q q E => ⟨v, h H1 e, q⟩
theorem spPure.use {P : Program} {w : World} {base : Heap} {ps : List Str} {sp : List V → Heap → V → Prop} {vs : List V} {H : Hp} {v : V} (hl : vs.length = ps.length) (h : ∀ H1, Ex H H1 → ∀ h, HOk P w H1 h → Ext base h → sp vs h v) :
    SpV (spPure P w base ps sp) vs H v := fun H1 e Q q E => ⟨hl, v, h H1 e, q H1 (Ex.refl H1)⟩
/-- the facts of all defs that others call -/
structure Fns (K : PySem.W.Frag) (mg : Str → Option Value) (x : Str) (ps : List Str) (st : Stmt) (f : Addr) (fd : FuncData) : Prop where
  fn : Fun K x x st f fd
  bd : Binds K fd ps []
  mg : mg x = some (.ref f)
section
variable {P : Program} {w : World} {K : PySem.W.Frag} {mg : Str → Option Value} {base : Heap}
variable {fInt fNum fSeq fPar fNN fIK fNK fCO fSF fNR fSh fSt fIS fFO fLS fLG fSA fFB : Addr} {dInt dNum dSeq dPar dNN dIK dNK dCO dSF dNR dSh dSt dIS dFO dLS dLG dSA dFB : FuncData}
def pNat : List V → Hp → V → Prop := fun vs H v => ∃ i : Int, vs = [.int i] ∧ 0 ≤ i ∧ v = .non
theorem ok_need_number {f : Addr} {fd : FuncData} (M : L2.Mod K mg base) (G : Mg mg) (F : Fun K "need_number" "need_number" sNeedNumber f fd) (F1 : Fns K mg "is_number" ["value"] sIsNumber fNum dNum) (F2 : Fns K mg "is_integer" ["value"] sIsInteger fInt dInt) :
    FnOk P w K mg base CX0 3 f fd ["value"] (spV pNat) := by
  have G1 : FnOk P w K mg base CX0 2 fNum dNum ["value"] (spPure P w base ["value"] pNumber) := (pf_is_number M G F1.fn F2.fn F2.bd F2.mg).ok
  refine F.ok scNeedNumber (fun vs H Q E h => ?_) (fun cdv A outer s H vs Q E hr h => ?_)
  · obtain ⟨v, ⟨i, rfl, _⟩, _⟩ := h
    rfl
  · obtain ⟨v, ⟨i, rfl, hi, rfl⟩, k⟩ := h
    refine ⟨_, pss_one (ps_if (pt_not (pt_val (pe_call G1 hr (by rfl) F1.mg F1.fn.kp F1.bd .nil pass0 (pa_cons (pv 0) pa_nil)))) pss_never pss_nil), ?_⟩
    have e1 : EvT (tNot (tB (tCall (spPure P w base ["value"] pNumber) [] E0 (tCons (tVar 0) tNil)))) (start ["value"] [V.int i]) H (!true) :=
      et_not (et_B (ev_call (ea_cons (ev_var rfl) ea_nil) (spPure.use rfl fun H1 _ h _ _ => ⟨.int i, "int", rfl, .int i, by rw [show isNum (.int i) = decide (i ≥ 0) from rfl, decide_eq_true hi]⟩)))
    exact s_if e1 (fun z => nomatch z) fun _ H1 e => k H1 e
def natsV (cs : List Nat) : List V := cs.map fun c => .int (c : Nat)
end
end K04
set_option Elab.async false
set_option linter.all false
set_option maxRecDepth 100000
set_option maxHeartbeats 4000000
/-! chains by numbers: rows in windows, by steps from g to p -/
namespace Chn
abbrev Win := Int × Option Int
def first (g p : Int) : Option Int → Int × Int
  | none => (0, p)
  | some b => (b + g, b + p)
def cut (s : Int × Int) (w : Win) : Int × Int := (max s.1 w.1, match w.2 with
  | none => s.2
  | some h => min s.2 h)
def fwd (g p : Int) : Int × Int → List Win → List (Int × Int)
  | _, [] => []
  | s, w :: ws => cut s w :: fwd g p ((cut s w).1 + g, (cut s w).2 + p) ws
def bck (g p : Int) : List (Int × Int) → List (Int × Int)
  | [] => []
  | x :: r => match bck g p r with
    | [] => [x]
    | y :: t => cut x (y.1 - p, some (y.2 - g)) :: y :: t
/-- stamps of a chain whose first row is in s -/
def Sol (g p : Int) : Int × Int → List Win → List Int → Prop
  | _, [], [] => True
  | s, w :: ws, x :: xs => (s.1 ≤ x ∧ x ≤ s.2) ∧ (w.1 ≤ x ∧ ∀ h, w.2 = some h → x ≤ h) ∧ Sol g p (x + g, x + p) ws xs
  | _, _, _ => False
theorem cut_lo {s : Int × Int} {w : Win} : s.1 ≤ (cut s w).1 ∧ w.1 ≤ (cut s w).1 := by
  unfold cut
  show s.1 ≤ max s.1 w.1 ∧ w.1 ≤ max s.1 w.1
  omega
theorem cut_hi {s : Int × Int} {w : Win} : (cut s w).2 ≤ s.2 ∧ ∀ h, w.2 = some h → (cut s w).2 ≤ h := by
  obtain ⟨lo, hi⟩ := w
  unfold cut
  cases hi with
  | none => exact ⟨Int.le_refl _, fun h e => nomatch e⟩
  | some k =>
    show min s.2 k ≤ s.2 ∧ ∀ h, some k = some h → min s.2 k ≤ h
    refine ⟨by omega, fun h e => ?_⟩
    cases e
    omega
theorem cut_in {s : Int × Int} {w : Win} {x : Int} (h1 : s.1 ≤ x) (h2 : x ≤ s.2) (h3 : w.1 ≤ x) (h4 : ∀ h, w.2 = some h → x ≤ h) : (cut s w).1 ≤ x ∧ x ≤ (cut s w).2 := by
  obtain ⟨lo, hi⟩ := w
  unfold cut
  cases hi with
  | none =>
    show max s.1 lo ≤ x ∧ x ≤ s.2
    have : lo ≤ x := h3
    omega
  | some k =>
    show max s.1 lo ≤ x ∧ x ≤ min s.2 k
    have a : lo ≤ x := h3
    have b := h4 k rfl
    omega
theorem Sol.widen {g p : Int} {s t : Int × Int} {ws : List Win} {xs : List Int} (h : Sol g p s ws xs) (h1 : t.1 ≤ s.1) (h2 : s.2 ≤ t.2) : Sol g p t ws xs := by
  cases ws with
  | nil =>
    cases xs with
    | nil => exact trivial
    | cons x xs => exact h.elim
  | cons w ws =>
    cases xs with
    | nil => exact h.elim
    | cons x xs =>
      obtain ⟨⟨a, b⟩, c, d⟩ := h
      exact ⟨⟨by omega, by omega⟩, c, d⟩
/-- within the stretches, one by one -/
def In : List (Int × Int) → List Int → Prop
  | [], [] => True
  | y :: r, x :: xs => (y.1 ≤ x ∧ x ≤ y.2) ∧ In r xs
  | _, _ => False
/-- what has been cut by what comes is just what can be: stamps lie within -/
theorem sol_in {g p : Int} : ∀ {ws : List Win} {xs : List Int} {s : Int × Int}, Sol g p s ws xs → In (bck g p (fwd g p s ws)) xs
  | [], [], _, _ => trivial
  | [], _ :: _, _, h => h.elim
  | _ :: _, [], _, h => h.elim
  | w :: ws, x :: xs, s, h => by
    obtain ⟨⟨a, b⟩, ⟨c, d⟩, e⟩ := h
    obtain ⟨x1, x2⟩ := cut_in a b c d
    have ih := sol_in (e.widen (t := ((cut s w).1 + g, (cut s w).2 + p)) (by show (cut s w).1 + g ≤ x + g; omega) (by show x + p ≤ (cut s w).2 + p; omega))
    show In (match bck g p (fwd g p ((cut s w).1 + g, (cut s w).2 + p) ws) with
      | [] => [cut s w]
      | y :: t => cut (cut s w) (y.1 - p, some (y.2 - g)) :: y :: t) (x :: xs)
    cases hr : bck g p (fwd g p ((cut s w).1 + g, (cut s w).2 + p) ws) with
    | nil =>
      rw [hr] at ih
      cases xs with
      | nil => exact ⟨⟨x1, x2⟩, trivial⟩
      | cons y ys => exact ih.elim
    | cons y t =>
      rw [hr] at ih
      cases xs with
      | nil => exact ih.elim
      | cons z zs =>
        cases ws with
        | nil => exact e.elim
        | cons w2 ws =>
          obtain ⟨⟨f1, f2⟩, _, _⟩ := e
          obtain ⟨⟨i1, i2⟩, i3⟩ := ih
          have f1' : x + g ≤ z := f1
          have f2' : z ≤ x + p := f2
          refine ⟨cut_in x1 x2 (by show y.1 - p ≤ x; omega) fun h e => ?_, ⟨i1, i2⟩, i3⟩
          cases e
          omega
def Full (L : List (Int × Int)) : Prop := ∀ y ∈ L, y.1 ≤ y.2
theorem bck_cons {g p : Int} {x : Int × Int} {r : List (Int × Int)} : bck g p (x :: r) = match bck g p r with
    | [] => [x]
    | y :: t => cut x (y.1 - p, some (y.2 - g)) :: y :: t := rfl
theorem bck_nil {g p : Int} {s : Int × Int} {ws : List Win} (h : bck g p (fwd g p s ws) = []) : ws = [] := by
  cases ws with
  | nil => rfl
  | cons w ws =>
    have e : bck g p (cut s w :: fwd g p ((cut s w).1 + g, (cut s w).2 + p) ws) = [] := h
    rw [bck_cons] at e
    cases hr : bck g p (fwd g p ((cut s w).1 + g, (cut s w).2 + p) ws) with
    | nil => rw [hr] at e; cases e
    | cons y t => rw [hr] at e; cases e
theorem Sol.move {g p : Int} {s t : Int × Int} {ws : List Win} {x : Int} {xs : List Int} (h : Sol g p s ws (x :: xs)) (h1 : t.1 ≤ x) (h2 : x ≤ t.2) : Sol g p t ws (x :: xs) := by
  cases ws with
  | nil => exact h.elim
  | cons w ws =>
    obtain ⟨_, c, d⟩ := h
    exact ⟨⟨h1, h2⟩, c, d⟩
theorem Sol.head {g p : Int} {s : Int × Int} {ws : List Win} {x : Int} {xs : List Int} (h : Sol g p s ws (x :: xs)) : s.1 ≤ x ∧ x ≤ s.2 := by
  cases ws with
  | nil => exact h.elim
  | cons w ws => exact h.1
/-- all least ones, all greatest ones are stamps -/
theorem sol_ends {g p : Int} (hg : g ≤ p) : ∀ {ws : List Win} {s : Int × Int}, Full (bck g p (fwd g p s ws)) → Sol g p s ws ((bck g p (fwd g p s ws)).map (·.1)) ∧ Sol g p s ws ((bck g p (fwd g p s ws)).map (·.2))
  | [], _, _ => ⟨trivial, trivial⟩
  | w :: ws, s, h => by
    have c1 := cut_lo (s := s) (w := w)
    have c2 := cut_hi (s := s) (w := w)
    have e : bck g p (fwd g p s (w :: ws)) = match bck g p (fwd g p ((cut s w).1 + g, (cut s w).2 + p) ws) with
      | [] => [cut s w]
      | y :: t => cut (cut s w) (y.1 - p, some (y.2 - g)) :: y :: t := rfl
    rw [e] at h ⊢
    cases hr : bck g p (fwd g p ((cut s w).1 + g, (cut s w).2 + p) ws) with
    | nil =>
      rw [hr] at h
      have z := bck_nil hr
      subst z
      have f := h (cut s w) (List.mem_cons_self ..)
      have q1 : (cut s w).1 ≤ s.2 := by omega
      have q2 : s.1 ≤ (cut s w).2 := by omega
      have q3 : w.1 ≤ (cut s w).2 := by omega
      have q4 : ∀ k, w.2 = some k → (cut s w).1 ≤ k := fun k e => by have := c2.2 k e; omega
      exact ⟨⟨⟨c1.1, q1⟩, ⟨c1.2, q4⟩, trivial⟩, ⟨⟨q2, c2.1⟩, ⟨q3, c2.2⟩, trivial⟩⟩
    | cons y t =>
      rw [hr] at h
      have ih := sol_ends hg (ws := ws) (s := ((cut s w).1 + g, (cut s w).2 + p)) (by rw [hr]; exact fun q hq => h q (List.mem_cons_of_mem _ hq))
      rw [hr] at ih
      obtain ⟨i1, i2⟩ := ih
      have j1 : (cut s w).1 + g ≤ y.1 ∧ y.1 ≤ (cut s w).2 + p := i1.head
      have j2 : (cut s w).1 + g ≤ y.2 ∧ y.2 ≤ (cut s w).2 + p := i2.head
      have f := h _ (List.mem_cons_self ..)
      have z1 : (cut (cut s w) (y.1 - p, some (y.2 - g))).1 = max (cut s w).1 (y.1 - p) := rfl
      have z2 : (cut (cut s w) (y.1 - p, some (y.2 - g))).2 = min (cut s w).2 (y.2 - g) := rfl
      obtain ⟨z, hz⟩ : ∃ z, cut (cut s w) (y.1 - p, some (y.2 - g)) = z := ⟨_, rfl⟩
      rw [hz] at f z1 z2
      have q1 : s.1 ≤ z.1 ∧ z.1 ≤ s.2 := by omega
      have q2 : s.1 ≤ z.2 ∧ z.2 ≤ s.2 := by omega
      have q3 : w.1 ≤ z.1 ∧ w.1 ≤ z.2 := by omega
      have q4 : ∀ k, w.2 = some k → z.1 ≤ k ∧ z.2 ≤ k := fun k e => by have := c2.2 k e; omega
      have m1 : z.1 + g ≤ y.1 ∧ y.1 ≤ z.1 + p := by omega
      have m2 : z.2 + g ≤ y.2 ∧ y.2 ≤ z.2 + p := by omega
      subst hz
      exact ⟨⟨q1, ⟨q3.1, fun k e => (q4 k e).1⟩, i1.move m1.1 m1.2⟩, ⟨q2, ⟨q3.2, fun k e => (q4 k e).2⟩, i2.move m2.1 m2.2⟩⟩
/-- from a value of the first row on -/
theorem sol_from {g p : Int} (hg : g ≤ p) : ∀ {ws : List Win} {s : Int × Int} {y : Int × Int} {t : List (Int × Int)} {v : Int}, Full (bck g p (fwd g p s ws)) → bck g p (fwd g p s ws) = y :: t → y.1 ≤ v → v ≤ y.2 → ∃ xs, Sol g p s ws (v :: xs)
  | [], _, _, _, _, _, e, _, _ => by cases e
  | w :: ws, s, y0, t0, v, h, e0, v1, v2 => by
    have c1 := cut_lo (s := s) (w := w)
    have c2 := cut_hi (s := s) (w := w)
    have e : bck g p (fwd g p s (w :: ws)) = match bck g p (fwd g p ((cut s w).1 + g, (cut s w).2 + p) ws) with
      | [] => [cut s w]
      | y :: t => cut (cut s w) (y.1 - p, some (y.2 - g)) :: y :: t := rfl
    rw [e] at h e0
    cases hr : bck g p (fwd g p ((cut s w).1 + g, (cut s w).2 + p) ws) with
    | nil =>
      rw [hr] at e0
      have z := bck_nil hr
      subst z
      cases e0
      have q : ∀ k, w.2 = some k → v ≤ k := fun k e => by have := c2.2 k e; omega
      exact ⟨[], ⟨by omega, by omega⟩, ⟨by omega, q⟩, trivial⟩
    | cons y t =>
      rw [hr] at h e0
      have f := h y (List.mem_cons_of_mem _ (List.mem_cons_self ..))
      have fl : Full (bck g p (fwd g p ((cut s w).1 + g, (cut s w).2 + p) ws)) := by rw [hr]; exact fun q hq => h q (List.mem_cons_of_mem _ hq)
      injection e0 with e1 e2
      have z1 : (cut (cut s w) (y.1 - p, some (y.2 - g))).1 = max (cut s w).1 (y.1 - p) := rfl
      have z2 : (cut (cut s w) (y.1 - p, some (y.2 - g))).2 = min (cut s w).2 (y.2 - g) := rfl
      rw [e1] at z1 z2
      obtain ⟨xs, hx⟩ := sol_from hg (v := max y.1 (v + g)) fl hr (by omega) (by omega)
      have q : ∀ k, w.2 = some k → v ≤ k := fun k e => by have := c2.2 k e; omega
      refine ⟨_, ⟨by omega, by omega⟩, ⟨by omega, q⟩, hx.move ?_ ?_⟩
      · show v + g ≤ max y.1 (v + g); omega
      · show max y.1 (v + g) ≤ v + p; omega
theorem sol_tail {g p : Int} (hg : 1 ≤ g) : ∀ {ws : List Win} {s : Int × Int} {x : Int} {xs : List Int}, Sol g p s ws (x :: xs) → ∀ z ∈ xs, x < z
  | [], _, _, _, h, _, _ => h.elim
  | [_], _, _, [], _, z, hz => by cases hz
  | [_], _, _, _ :: _, h, _, _ => h.2.2.elim
  | _ :: _ :: _, _, _, [], h, _, _ => h.2.2.elim
  | _ :: w :: ws, s, x, y :: ys, h, z, hz => by
    have t := h.2.2
    have b := t.head
    have b1 : x + g ≤ y := b.1
    rcases List.mem_cons.mp hz with e | e
    · omega
    · have := sol_tail hg t z e
      omega
/-- just c rows at a stamp or ahead, wherever the ends let it; the first row behind it is as soon as can be -/
def Cnt (st : Int) : Nat → List Int → Prop
  | 0, xs => ∀ z ∈ xs, st < z
  | c + 1, x :: xs => x ≤ st ∧ Cnt st c xs
  | _ + 1, [] => False
def Can (st : Int) : Nat → List (Int × Int) → Prop
  | 0, [] => True
  | 0, y :: _ => st < y.2
  | 1, y :: r => y.1 ≤ st ∧ Can st 0 r
  | c + 2, y :: r => y.1 ≤ st ∧ Can st (c + 1) r
  | _ + 1, [] => False
theorem sol_count {g p : Int} (h1 : 1 ≤ g) (hg : g ≤ p) {st : Int} : ∀ {ws : List Win} {s : Int × Int} {c : Nat}, Full (bck g p (fwd g p s ws)) → Can st c (bck g p (fwd g p s ws)) →
    ∃ xs, Sol g p s ws xs ∧ Cnt st c xs ∧ (c = 0 → ∀ y r, bck g p (fwd g p s ws) = y :: r → xs.head? = some (max y.1 (st + 1)))
  | [], _, 0, _, _ => ⟨[], trivial, (fun z hz => nomatch hz), fun _ y r e => nomatch e⟩
  | [], _, 1, _, k => k.elim
  | [], _, _ + 2, _, k => k.elim
  | w :: ws, s, 0, h, k => by
    cases hb : bck g p (fwd g p s (w :: ws)) with
    | nil => exact absurd (bck_nil hb) (by simp)
    | cons y r =>
      rw [hb] at k
      have k1 : st < y.2 := k
      have f := h y (by rw [hb]; exact List.mem_cons_self ..)
      obtain ⟨xs, hx⟩ := sol_from hg (v := max y.1 (st + 1)) h hb (by omega) (by omega)
      refine ⟨_, hx, fun z hz => ?_, fun _ y2 r2 e => ?_⟩
      · rcases List.mem_cons.mp hz with e | e
        · omega
        · have := sol_tail h1 hx z e
          omega
      · cases e
        rfl
  | w :: ws, s, c + 1, h, k => by
    have c1 := cut_lo (s := s) (w := w)
    have c2 := cut_hi (s := s) (w := w)
    have e : bck g p (fwd g p s (w :: ws)) = match bck g p (fwd g p ((cut s w).1 + g, (cut s w).2 + p) ws) with
      | [] => [cut s w]
      | y :: t => cut (cut s w) (y.1 - p, some (y.2 - g)) :: y :: t := rfl
    rw [e] at h k
    cases hr : bck g p (fwd g p ((cut s w).1 + g, (cut s w).2 + p) ws) with
    | nil =>
      rw [hr] at h k
      have z := bck_nil hr
      subst z
      have f := h (cut s w) (List.mem_cons_self ..)
      have kc : (cut s w).1 ≤ st ∧ c = 0 := by
        cases c with
        | zero => exact ⟨k.1, rfl⟩
        | succ c =>
          have k2 : Can st (c + 1) [] := k.2
          cases c <;> exact k2.elim
      obtain ⟨k1, rfl⟩ := kc
      have q1 : (cut s w).1 ≤ s.2 := by omega
      have q4 : ∀ k, w.2 = some k → (cut s w).1 ≤ k := fun k e => by have := c2.2 k e; omega
      exact ⟨[(cut s w).1], ⟨⟨c1.1, q1⟩, ⟨c1.2, q4⟩, trivial⟩, ⟨k1, (fun z hz => nomatch hz)⟩, fun e => by cases e⟩
    | cons y t =>
      rw [hr] at h k
      obtain ⟨z, hz⟩ : ∃ z, cut (cut s w) (y.1 - p, some (y.2 - g)) = z := ⟨_, rfl⟩
      have z1 : (cut (cut s w) (y.1 - p, some (y.2 - g))).1 = max (cut s w).1 (y.1 - p) := rfl
      have z2 : (cut (cut s w) (y.1 - p, some (y.2 - g))).2 = min (cut s w).2 (y.2 - g) := rfl
      have h : Full (z :: y :: t) := by rw [← hz]; exact h
      have k : Can st (c + 1) (z :: y :: t) := by rw [← hz]; exact k
      rw [hz] at z1 z2
      have f := h z (List.mem_cons_self ..)
      have fl : Full (bck g p (fwd g p ((cut s w).1 + g, (cut s w).2 + p) ws)) := by rw [hr]; exact fun q hq => h q (List.mem_cons_of_mem _ hq)
      have kc : z.1 ≤ st ∧ Can st c (y :: t) := by
        cases c with
        | zero => exact k
        | succ c => exact k
      obtain ⟨k1, k2⟩ := kc
      rw [← hr] at k2
      obtain ⟨xs, hx, hc, h0⟩ := sol_count h1 hg fl k2
      have ix := sol_in hx
      rw [hr] at ix
      cases xs with
      | nil => exact ix.elim
      | cons x xs =>
        obtain ⟨⟨i1, i2⟩, _⟩ := ix
        have hd := hx.head
        have hd1 : (cut s w).1 + g ≤ x := hd.1
        have hd2 : x ≤ (cut s w).2 + p := hd.2
        have xs1 : x - p ≤ st := by
          cases c with
          | zero =>
            have q := h0 rfl y t hr
            have q2 : x = max y.1 (st + 1) := Option.some.inj q
            omega
          | succ c =>
            have q : x ≤ st := hc.1
            omega
        have q1 : s.1 ≤ max z.1 (x - p) ∧ max z.1 (x - p) ≤ s.2 := by omega
        have q3 : w.1 ≤ max z.1 (x - p) := by omega
        have q4 : ∀ k, w.2 = some k → max z.1 (x - p) ≤ k := fun k e => by have := c2.2 k e; omega
        refine ⟨max z.1 (x - p) :: x :: xs, ⟨q1, ⟨q3, q4⟩, hx.move ?_ ?_⟩, ⟨by omega, hc⟩, fun e => by cases e⟩
        · show max z.1 (x - p) + g ≤ x; omega
        · show x ≤ max z.1 (x - p) + p; omega
end Chn
set_option Elab.async false
set_option linter.all false
set_option maxRecDepth 100000
set_option maxHeartbeats 4000000
namespace Pu
open PySem PySem.Spec PyProof.Rows L2 GxR
section
variable {P : Program} {w : World} {A : Around} {env : Env} {g : Heap}
theorem ev_or {a b : Expr} {rest : List Expr} {pos : Pos} {x y : Bool} (ha : EV P w A env g a (.bl x)) (hb : x = false → EV P w A env g (.BoolOp .Or (b :: rest) pos) (.bl y)) :
    EV P w A env g (.BoolOp .Or (a :: b :: rest) pos) (.bl (x || y)) := fun s Q E hx hQ => by
  refine BoolOp_or (ha s _ E hx fun u h' tk r hk => ?_)
  cases (show u = Value.bool x from r)
  refine wpAny_truthy_bool ?_
  cases x with
  | true => exact hQ _ h' tk rfl hk
  | false => exact hb rfl { s with heap := h', toks := tk } Q E (fun b o e => hk b o (hx b o e)) fun u h2 t2 r2 k2 => hQ u h2 t2 r2 fun b o e => k2 b o (hk b o e)
theorem ev_isN {a : Expr} {j : Nat} {pos pos' : Pos} {x : V} (ha : EV P w A env g a x) (hm : behindInMarks .Is (.Constant .none j pos') = false := by first | exact nobehind _ (by decide) (by decide) | rfl) :
    EV P w A env g (.Compare a [.Is] [.Constant .none j pos'] pos) (.bl (decide (x = .non))) := fun s Q E hx hQ => by
  refine wpAny_Compare1 (ha s _ E hx fun u h' tk r hk => ?_) hm
  exact Constant_none (is_none_gen (hQ _ h' tk (by rw [r.none_iff]; rfl) hk))
end
section
variable {X : Cx} {ta tb tc td : TE}
/-- a op b op' c op'' d -/
def tChain3 (r r' r'' : R2) (ta tb tc td : TE) : TE := fun σ H Q => ta σ H fun x H1 => tb σ H1 fun y H2 => r x y H2 fun z H3 => ∃ k, z = .bl k ∧
  (if k = true then tc σ H3 fun y' H4 => r' y y' H4 fun z' H5 => ∃ k', z' = .bl k' ∧ (if k' = true then td σ H5 fun y'' H6 => r'' y' y'' H6 Q else Q (.bl false) H5) else Q (.bl false) H3)
theorem pe_chain3 {a b c d : Expr} {pos : Pos} {op op' op'' : CmpOp} {r r' r'' : R2} (ho : OpR X (compareOp op) r) (ho' : OpR X (compareOp op') r') (ho'' : OpR X (compareOp op'') r'') (ha : PE X a ta) (hb : PE X b tb) (hc : PE X c tc) (hd : PE X d td)
    (hm : lastMarks [op, op', op''] [b, c, d] = false := by with_unfolding_all rfl) : PE X (.Compare a [op, op', op''] [b, c, d] pos) (tChain3 r r' r'' ta tb tc td) := by
  refine ⟨fun pins s σ H Q I h => ?_⟩
  refine Compare_chain (thn (ha.run pins s σ H _ I h) fun v s1 ⟨x, H1, I1, r1, q1⟩ => chain_link (thn (hb.run pins s1 σ H1 _ I1 q1) fun u s2 ⟨y, H2, I2, r2, q2⟩ =>
    thn (ho pins s2 σ H2 x y v u _ I2 r1 r2 q2) fun d s3 ⟨z, H3, I3, r3, k, e, q3⟩ => ?_)) hm
  subst e
  cases r3
  refine wpAny_truthy_bool ?_
  cases k with
  | false => exact ite_ff ⟨.bl false, H3, I3, rfl, q3⟩
  | true =>
    refine ite_tt (chain_link (thn (hc.run pins s3 σ H3 _ I3 q3) fun u4 s4 ⟨y', H4, I4, r4, q4⟩ => thn (ho' pins s4 σ H4 y y' u u4 _ I4 r2 r4 q4) fun d2 s5 ⟨z', H5, I5, r5, k', e', q5⟩ => ?_))
    subst e'
    cases r5
    refine wpAny_truthy_bool ?_
    cases k' with
    | false => exact ite_ff ⟨.bl false, H5, I5, rfl, q5⟩
    | true => exact ite_tt (chain_last (thn (hd.run pins s5 σ H5 _ I5 q5) fun w' s6 ⟨z6, H6, I6, r6, q6⟩ => ho'' pins s6 σ H6 y' z6 u4 w' Q I6 r4 r6 q6))
end
end Pu
namespace K04
open PySem PySem.Spec PyProof.Rows L2 GxR Pu
theorem scAreSteps : FnScope ["gap", "pause"] ["gap", "pause"] (defScope sAreSteps) := ⟨rfl, rfl, rfl, by decide +kernel, rfl, by decide +kernel, by decide +kernel⟩
theorem scIsNon : FnScope ["value"] ["value"] (defScope sIsNon) := ⟨rfl, rfl, rfl, by decide +kernel, rfl, by decide +kernel, by decide +kernel⟩
theorem scIsWindow : FnScope ["value"] ["value"] (defScope sIsWindow) := ⟨rfl, rfl, rfl, by decide +kernel, rfl, by decide +kernel, by decide +kernel⟩
theorem isNum_nat (n : Nat) : isNum (.int (n : Int)) = true := by
  show decide ((n : Int) ≥ 0) = true
  exact decide_eq_true (by omega)
def pNon : List V → Heap → V → Prop := fun vs g v => ∃ x t, vs = [x] ∧ TyG g x t ∧ v = .bl (decide (x = .non) || isNum x)
/-- a window that is one -/
def pWindow : List V → Heap → V → Prop := fun vs g v => ∃ (a : Addr) (b : Bool) (u0 u1 : Value) (lo : Nat) (hi : V), vs = [.ref a] ∧ SeqG g b a [u0, u1] ∧ RelV (.int (lo : Nat)) u0 ∧ RelV hi u1 ∧ (hi = .non ∨ ∃ h : Nat, hi = .int h) ∧ v = .bl true
section
variable {P : Program} {w : World} {K : PySem.W.Frag} {mg : Str → Option Value} {base : Heap}
theorem pf_is_non {f f1 f2 : Addr} {fd fd1 fd2 : FuncData} (M : L2.Mod K mg base) (G : Mg mg) (F : Fun K "is_number_or_none" "is_number_or_none" sIsNon f fd) (F1 : Fun K "is_number" "is_number" sIsNumber f1 fd1) (b1 : Binds K fd1 ["value"] []) (m1 : mg "is_number" = some (.ref f1))
    (F2 : Fun K "is_integer" "is_integer" sIsInteger f2 fd2) (b2 : Binds K fd2 ["value"] []) (m2 : mg "is_integer" = some (.ref f2)) : PF P w K mg base 3 f fd ["value"] pNon := by
  have G1 : PF P w K mg base 2 f1 fd1 ["value"] pNumber := pf_is_number M G F1 F2 b2 m2
  refine pf_ret M F scIsNon rfl (by decide +kernel) (fun cdv A L g us vs v hr hx r hl h hn => ?_) fun vs g h v e q => ?_
  · obtain ⟨x, t, rfl, ty, rfl⟩ := h
    obtain ⟨u, rfl, ru⟩ := vals1 r
    obtain ⟨m, ns, hm⟩ := hn 0 "value" u rfl rfl
    have FR : FrP K mg base A (envOfC "is_number_or_none" (defScope sIsNon) L f cdv) g := ⟨M, hx, rfl, rfl, rfl, hr.hd⟩
    have val : ∀ {pos : Pos}, EV P w A (envOfC "is_number_or_none" (defScope sIsNon) L f cdv) g (.Name "value" pos) x := ev_loc FR rfl ns hm ru
    exact ev_or (ev_isN val) fun _ => ev_one (ev_pf FR G1 hr rfl m1 F1.kp b1 (ea_cons val ea_nil) rfl fun h e => ⟨x, t, rfl, ty.mono e, rfl⟩)
  · obtain ⟨x, t, h1, h2, h3⟩ := q
    exact ⟨x, t, h1, h2.mono e, h3⟩
theorem pf_is_window {f f1 f2 f3 f4 f5 : Addr} {fd fd1 fd2 fd3 fd4 fd5 : FuncData} (M : L2.Mod K mg base) (G : Mg mg) (F : Fun K "is_window" "is_window" sIsWindow f fd)
    (F1 : Fun K "is_of_parts" "is_of_parts" sIsOfParts f1 fd1) (b1 : Binds K fd1 ["value", "many"] []) (m1 : mg "is_of_parts" = some (.ref f1)) (F2 : Fun K "is_number" "is_number" sIsNumber f2 fd2) (b2 : Binds K fd2 ["value"] []) (m2 : mg "is_number" = some (.ref f2))
    (F3 : Fun K "is_sequence" "is_sequence" sIsSequence f3 fd3) (b3 : Binds K fd3 ["value"] []) (m3 : mg "is_sequence" = some (.ref f3)) (F4 : Fun K "is_integer" "is_integer" sIsInteger f4 fd4) (b4 : Binds K fd4 ["value"] []) (m4 : mg "is_integer" = some (.ref f4))
    (F5 : Fun K "is_number_or_none" "is_number_or_none" sIsNon f5 fd5) (b5 : Binds K fd5 ["value"] []) (m5 : mg "is_number_or_none" = some (.ref f5)) : PF P w K mg base 4 f fd ["value"] pWindow := by
  have G1 : PF P w K mg base 2 f1 fd1 ["value", "many"] pOfParts := pf_is_of_parts M G F1 F3 b3 m3
  have G2 : PF P w K mg base 2 f2 fd2 ["value"] pNumber := pf_is_number M G F2 F4 b4 m4
  have G5 : PF P w K mg base 3 f5 fd5 ["value"] pNon := pf_is_non M G F5 F2 b2 m2 F4 b4 m4
  refine pf_ret M F scIsWindow rfl (by decide +kernel) (fun cdv A L g us vs v hr hx r hl h hn => ?_) fun vs g h v e q => ?_
  · obtain ⟨a, b, u0, u1, lo, hi, rfl, sq, r0, r1, hh, rfl⟩ := h
    obtain ⟨u, rfl, ru⟩ := vals1 r
    obtain ⟨m, ns, hm⟩ := hn 0 "value" u rfl rfl
    have FR : FrP K mg base A (envOfC "is_window" (defScope sIsWindow) L f cdv) g := ⟨M, hx, rfl, rfl, rfl, hr.hd⟩
    have val : ∀ {pos : Pos}, EV P w A (envOfC "is_window" (defScope sIsWindow) L f cdv) g (.Name "value" pos) (.ref a) := ev_loc FR rfl ns hm ru
    have n0 := isNum_nat lo
    obtain ⟨t, ty, hb⟩ : ∃ t, TyG g hi t ∧ (decide (hi = .non) || isNum hi) = true := by
      rcases hh with rfl | ⟨h, rfl⟩
      · exact ⟨_, .non, rfl⟩
      · exact ⟨_, .int _, by rw [isNum_nat h]; simp⟩
    refine ev_and (x := true) (y := true) (ev_pf FR G1 (hr.mono (by decide)) rfl m1 F1.kp b1 (ea_cons val (ea_cons ev_int ea_nil)) rfl fun h e => ⟨.ref a, some 2, 2, rfl, .seq (sq.mono e), rfl⟩) fun _ =>
      ev_and (x := true) (y := true) (ev_pf FR G2 (hr.mono (by decide)) rfl m2 F2.kp b2 (ea_cons (ev_ix (j := 0) FR val ev_int sq rfl r0) ea_nil) rfl fun h e => ⟨_, _, rfl, .int _, by rw [n0]⟩) fun _ =>
        ev_one (ev_pf FR G5 hr rfl m5 F5.kp b5 (ea_cons (ev_ix (j := 1) FR val ev_int sq rfl r1) ea_nil) rfl fun h e => ⟨hi, t, rfl, ty.mono e, by rw [hb]⟩)
  · obtain ⟨a, b, u0, u1, lo, hi, h1, h2, h3⟩ := q
    exact ⟨a, b, u0, u1, lo, hi, h1, h2.mono e, h3⟩
end
end K04
set_option Elab.async false
set_option linter.all false
set_option maxRecDepth 100000
set_option maxHeartbeats 4000000
namespace K04
open PySem PySem.Spec PyProof.Rows L2 GxR Pu Evl
/-- a number, or None -/
def nonV : Option Nat → V
  | none => .non
  | some n => .int (n : Int)
def WinT (H : Hp) (w : Nat × Option Nat) (v : V) : Prop := ∃ b, v = .ref b ∧ H b = some (.tup [.int (w.1 : Nat), nonV w.2])
def WsT (H : Hp) (ws : List (Nat × Option Nat)) (xs : List V) : Prop := Paired (WinT H) ws xs
structure Ch where
  g : Nat
  p : Nat
  b : Option Nat
  ws : List (Nat × Option Nat)
structure Ch.Ok (c : Ch) : Prop where
  g1 : 1 ≤ c.g
  gp : c.g ≤ c.p
  p9 : c.p ≤ 1000
  wl : c.ws.length ≤ 200
def ChT (H : Hp) (c : Ch) (v : V) : Prop := ∃ a e xs, v = .ref a ∧ H a = some (.tup [.int (c.g : Nat), .int (c.p : Nat), nonV c.b, .ref e]) ∧ H e = some (.tup xs) ∧ WsT H c.ws xs
theorem WsT.ex {H H' : Hp} {ws : List (Nat × Option Nat)} {xs : List V} (h : WsT H ws xs) (e : Ex H H') : WsT H' ws xs := Paired.mapP h fun _ _ ⟨b, h1, h2⟩ => ⟨b, h1, e _ _ h2⟩
theorem WsT.exT {T : Addr} {H H' : Hp} {ws : List (Nat × Option Nat)} {xs : List V} (t : TabG H T) (h : WsT H ws xs) (e : ExT T H H') : WsT H' ws xs := Paired.mapP h fun _ _ ⟨b, h1, h2⟩ => ⟨b, h1, e.2 _ _ (TabG.ne t h2 fun ps z => by cases z) h2⟩
theorem ChT.ex {H H' : Hp} {c : Ch} {v : V} (h : ChT H c v) (e : Ex H H') : ChT H' c v := by
  obtain ⟨a, e', xs, h1, h2, h3, h4⟩ := h
  exact ⟨a, e', xs, h1, e _ _ h2, e _ _ h3, h4.ex e⟩
theorem ChT.exT {T : Addr} {H H' : Hp} {c : Ch} {v : V} (t : TabG H T) (h : ChT H c v) (e : ExT T H H') : ChT H' c v := by
  obtain ⟨a, e', xs, h1, h2, h3, h4⟩ := h
  exact ⟨a, e', xs, h1, e.2 _ _ (TabG.ne t h2 fun ps z => by cases z) h2, e.2 _ _ (TabG.ne t h3 fun ps z => by cases z) h3, h4.exT t e⟩
/-- windows, each a tuple or a list -/
def WsE (K : PySem.W.Frag) (H : Hp) (ws : List (Nat × Option Nat)) (xs : List V) : Prop := Paired (fun (w : Nat × Option Nat) (v : V) => ∃ b, v = .ref b ∧ (H b = some (.tup [.int (w.1 : Nat), nonV w.2]) ∨ SqL K H b [.int (w.1 : Nat), nonV w.2])) ws xs
theorem win_sq {K : PySem.W.Frag} {H : Hp} {b : Addr} {xs : List V} (h : H b = some (.tup xs) ∨ SqL K H b xs) : SqE K H b xs := h.elim (fun h => .inl (SqT.of h)) .inr
theorem win_ex {K : PySem.W.Frag} {H H' : Hp} {b : Addr} {xs : List V} (h : H b = some (.tup xs) ∨ SqL K H b xs) (e : Ex H H') : H' b = some (.tup xs) ∨ SqL K H' b xs := h.elim (fun h => .inl (e _ _ h)) fun h => .inr (ex_l e h)
theorem WsT.upd {H : Hp} {ws : List (Nat × Option Nat)} {xs ys : List V} {D : Addr} {o : HO} (h : WsT H ws xs) (hD : H D = some (.lst ys)) : WsT (upd H D o) ws xs := Paired.mapP h fun p v ⟨b, h1, h2⟩ =>
  ⟨b, h1, by rw [upd_ne (ne_of h2 hD (by intro z; cases z))]; exact h2⟩
theorem WsT.snoc {H : Hp} {ws : List (Nat × Option Nat)} {ys : List V} {s : Nat × Option Nat} {q : Addr} (h : WsT H ws ys) (e : H q = some (.tup [.int (s.1 : Nat), nonV s.2])) : WsT H (ws ++ [s]) (ys ++ [.ref q]) := Paired.app h (.cons ⟨q, rfl, e⟩ .nil)
theorem WsE.ex {K : PySem.W.Frag} {H H' : Hp} {ws : List (Nat × Option Nat)} {xs : List V} (h : WsE K H ws xs) (e : Ex H H') : WsE K H' ws xs := Paired.mapP h fun _ _ ⟨b, h1, h2⟩ => ⟨b, h1, win_ex h2 e⟩
theorem WsE.exT {K : PySem.W.Frag} {T : Addr} {H H' : Hp} {ws : List (Nat × Option Nat)} {xs : List V} (t : TabG H T) (h : WsE K H ws xs) (e : ExT T H H') : WsE K H' ws xs := Paired.mapP h fun _ _ ⟨b, h1, h2⟩ => ⟨b, h1, h2.elim (fun h => .inl (e.2 _ _ (TabG.ne t h fun ps z => by cases z) h)) fun h => .inr (SqL.exT t e h)⟩
theorem WsT.e {K : PySem.W.Frag} {H : Hp} {ws : List (Nat × Option Nat)} {xs : List V} (h : WsT H ws xs) : WsE K H ws xs := Paired.mapP h fun _ _ ⟨b, h1, h2⟩ => ⟨b, h1, .inl h2⟩
/-- a chain of tuples or lists -/
def ChE (K : PySem.W.Frag) (H : Hp) (c : Ch) (v : V) : Prop := ∃ a e xs, v = .ref a ∧ SqE K H a [.int (c.g : Nat), .int (c.p : Nat), nonV c.b, .ref e] ∧ SqE K H e xs ∧ WsE K H c.ws xs
theorem ChE.ex {K : PySem.W.Frag} {H H' : Hp} {c : Ch} {v : V} (h : ChE K H c v) (e : Ex H H') : ChE K H' c v := by
  obtain ⟨x, y, xs, h1, h2, h3, h4⟩ := h
  exact ⟨x, y, xs, h1, h2.ex e, h3.ex e, h4.ex e⟩
theorem ChE.exT {K : PySem.W.Frag} {T : Addr} {H H' : Hp} {c : Ch} {v : V} (t : TabG H T) (h : ChE K H c v) (e : ExT T H H') : ChE K H' c v := by
  obtain ⟨x, y, xs, h1, h2, h3, h4⟩ := h
  exact ⟨x, y, xs, h1, h2.exT t e, h3.exT t e, h4.exT t e⟩
theorem ChT.e {K : PySem.W.Frag} {H : Hp} {c : Ch} {v : V} (h : ChT H c v) : ChE K H c v := by
  obtain ⟨x, y, xs, h1, h2, h3, h4⟩ := h
  exact ⟨x, y, xs, h1, .inl (SqT.of h2), .inl (SqT.of h3), h4.e⟩
structure Mc (mg : Str → Option Value) : Prop where
  pause : ∃ u, mg "MOST_PAUSE" = some u ∧ RelV (.int 1000) u
  rows : ∃ u, mg "MOST_ROWS" = some u ∧ RelV (.int 200) u
theorem scAreWindows : FnScope ["value"] ["value"] (defScope sAreWindows) := ⟨rfl, rfl, rfl, by decide +kernel, rfl, by decide +kernel, by decide +kernel⟩
theorem scIsChain : FnScope ["value", "gap", "pause", "begin", "windows"] ["value"] (defScope sIsChain) := ⟨rfl, rfl, rfl, by decide +kernel, rfl, by decide +kernel, by decide +kernel⟩
theorem scCheck : FnScope ["value", "gap", "pause", "begin", "windows", "window"] ["value"] (defScope sCheckChain) := ⟨rfl, rfl, rfl, by decide +kernel, rfl, by decide +kernel, by decide +kernel⟩
theorem scFirst : FnScope ["gap", "pause", "begin"] ["gap", "pause", "begin"] (defScope sFirstSteps) := ⟨rfl, rfl, rfl, by decide +kernel, rfl, by decide +kernel, by decide +kernel⟩
theorem scWithin : FnScope ["stretch", "window", "low", "high", "greatest"] ["stretch", "window"] (defScope sWithin) := ⟨rfl, rfl, rfl, by decide +kernel, rfl, by decide +kernel, by decide +kernel⟩
def pSteps : List V → Hp → V → Prop := fun vs H v => ∃ g p : Nat, vs = [.int g, .int p] ∧ 1 ≤ g ∧ g ≤ p ∧ p ≤ 1000 ∧ v = .bl true
def spWs (K : PySem.W.Frag) (T : Addr) : Sp := fun vs H Q _ => ∃ (e : Addr) (ws : List (Nat × Option Nat)) (xs : List V), vs = [.ref e] ∧ SqE K H e xs ∧ WsE K H ws xs ∧ ws.length ≤ 200 ∧ TabG H T ∧ ∀ H', ExT T H H' → Q (.bl true) H'
def spIsCh (K : PySem.W.Frag) (T : Addr) : Sp := fun vs H Q _ => ∃ (c : Ch) (v : V), vs = [v] ∧ c.Ok ∧ ChE K H c v ∧ TabG H T ∧ ∀ H', ExT T H H' → Q (.bl true) H'
def spChk (K : PySem.W.Frag) (T : Addr) : Sp := fun vs H Q _ => ∃ (c : Ch) (v : V), vs = [v] ∧ c.Ok ∧ ChE K H c v ∧ TabG H T ∧ ∀ q H', H q = none → ExT T H H' → ChT H' c (.ref q) → Q (.ref q) H'
section
variable {P : Program} {w : World} {K : PySem.W.Frag} {mg : Str → Option Value} {base : Heap} {T c : Addr}
variable {fInt fNum fSeq fPar fNN fSt fNon fWin fWs fIC : Addr} {dInt dNum dSeq dPar dNN dSt dNon dWin dWs dIC : FuncData}
theorem ok_are_steps {f : Addr} {fd : FuncData} (M : L2.Mod K mg base) (G : Mg mg) (C : Mc mg) (F : Fun K "are_steps" "are_steps" sAreSteps f fd) (F1 : Fns K mg "is_integer" ["value"] sIsInteger fInt dInt) : FnOk P w K mg base CX0 2 f fd ["gap", "pause"] (spV pSteps) := by
  have G1 : FnOk P w K mg base CX0 1 fInt dInt ["value"] (spPure P w base ["value"] pInteger) := (pf_is_integer M G F1.fn).ok
  refine F.ok scAreSteps (fun vs H Q E h => ?_) (fun cdv A outer s H vs Q E hr h => ?_)
  · obtain ⟨v, ⟨g, p, rfl, _⟩, _⟩ := h
    rfl
  · obtain ⟨v, ⟨g, p, rfl, g1, gp, p9, rfl⟩, k⟩ := h
    refine ⟨_, pss_one (ps_ret (pe_and (pe_call G1 hr (by rfl) F1.mg F1.fn.kp F1.bd .nil pass0 (pa_cons (pv 0) pa_nil)) (pe_and (pe_call G1 hr (by rfl) F1.mg F1.fn.kp F1.bd .nil pass0 (pa_cons (pv 1) pa_nil)) (pe_one (pe_chain3 op_le op_le op_le pe_int (pv 0) (pv 1) (C8.pe_gc (by rfl) C.pause)))))), ?_⟩
    have e0 : Ev (tCall (spPure P w base ["value"] pInteger) [] E0 (tCons (tVar 0) tNil)) (start ["gap", "pause"] [V.int g, V.int p]) H (.bl true) := ev_call (ea_cons (ev_var rfl) ea_nil) (spPure.use rfl fun H1 _ h _ _ => ⟨.int g, "int", rfl, .int _, rfl⟩)
    refine e0 H (Ex.refl H) _ fun H1 e1 => ⟨true, rfl, iteT ?_⟩
    have e2 : Ev (tCall (spPure P w base ["value"] pInteger) [] E0 (tCons (tVar 1) tNil)) (start ["gap", "pause"] [V.int g, V.int p]) H1 (.bl true) := ev_call (ea_cons (ev_var rfl) ea_nil) (spPure.use rfl fun H1 _ h _ _ => ⟨.int p, "int", rfl, .int _, rfl⟩)
    refine e2 H1 (Ex.refl H1) _ fun H2 e3 => ⟨true, rfl, iteT ?_⟩
    refine ⟨_, rfl, 1, g, rfl, rfl, true, by show V.bl (decide ((1 : Int) ≤ g)) = _; rw [decide_eq_true (by omega)], iteT ⟨_, rfl, g, p, rfl, rfl, true, by show V.bl (decide ((g : Int) ≤ p)) = _; rw [decide_eq_true (by omega)], iteT ⟨p, 1000, rfl, rfl, ?_⟩⟩⟩
    show Q (V.bl (decide ((p : Int) ≤ 1000))) H2
    rw [decide_eq_true (by omega)]
    exact k H2 (e1.trans e3)
theorem all_true (n : Nat) : (List.range n).all (fun _ => true) = true := by simp
theorem ok_are_windows {f : Addr} {fd : FuncData} (M : L2.Mod K mg base) (G : Mg mg) (C : Mc mg) (F : FunC K "are_windows" "are_windows" sAreWindows f fd c) (TB : TabB base mg c T)
    (F4 : Fns K mg "is_sequence" ["value"] sIsSequence fSeq dSeq) (F5 : Fns K mg "is_window" ["value"] sIsWindow fWin dWin) (G5 : PF P w K mg base 4 fWin dWin ["value"] pWindow) : FnOk P w K mg base CX0 6 f fd ["value"] (spWs K T) := by
  have G4 : FnOk P w K mg base CX0 1 fSeq dSeq ["value"] (spPure P w base ["value"] pSequence) := (pf_is_sequence M G F4.fn).ok
  refine F.ok scAreWindows (fun vs H Q E h => ?_) (fun A outer s H vs Q E hr h => ?_)
  · obtain ⟨e, ws, xs, rfl, _⟩ := h
    rfl
  · obtain ⟨e, ws, xs, rfl, he, hw, hl, ht, kk⟩ := h
    refine ⟨_, pss_one (ps_ret (pe_and (pe_call G4 (hr.mono (by decide)) (by rfl) F4.mg F4.fn.kp F4.bd .nil pass0 (pa_cons (pv 0) pa_nil)) (pe_and (pe_cmpR op_le (pe_callB call_len (by rfl) G.len boot_len (pa_cons (pv 0) pa_nil)) (C8.pe_gc (by rfl) C.rows) (nomark _))
      (pe_one (pe_allQ (k := 4) (T := T) (c := c) hr (by rfl) G.all TB rfl (GenS.of rfl rfl (by decide +kernel) rfl rfl (by decide +kernel)) (pv 0)))))), ?_⟩
    have hxl : ws.length = xs.length := Paired.length hw
    have e0 : Ev (tCall (spPure P w base ["value"] pSequence) [] E0 (tCons (tVar 0) tNil)) (start ["value"] [.ref e]) H (.bl true) := ev_call (ea_cons (ev_var rfl) ea_nil) (spPure.use rfl fun H1 e1 h ok bx => by
      obtain ⟨bb, its, rv, sq⟩ := TyG.of_sq ok (M.kin.keeps bx) (SqE.ex he e1)
      exact ⟨_, _, rfl, TyG.seq sq, by cases bb <;> rfl⟩)
    refine e0 H (Ex.refl H) _ fun H1 e1 => ⟨true, rfl, iteT ?_⟩
    have he1 := SqE.ex he e1
    have hw1 := hw.ex e1
    have ht1 := TabG.ex ht e1
    refine ⟨.ref e, rfl, .ref e, xs.length, rfl, he1.elim (fun q => .inr ⟨xs, q, rfl⟩) (fun q => .inl ⟨xs, q, rfl⟩), (xs.length : Int), 200, rfl, rfl, true, by show V.bl (decide ((xs.length : Int) ≤ 200)) = _; rw [decide_eq_true (by omega)], iteT ?_⟩
    refine ⟨.ref e, rfl, e, xs, fun _ => true, rfl, he1, ht1, ?_, fun H4 t4 => ?_⟩
    · intro B' cenv g i v u hrm hs hg hb hx hn hi rv ok
      obtain ⟨m, ns, hm⟩ := hn
      have FR : FrP K mg base B' cenv g := ⟨M, hx, by rw [hs], hg, hb, hrm.hd⟩
      obtain ⟨p, hp1, b, rfl, hb1⟩ := Paired.at hw1 hi
      obtain ⟨bb, its, rvs, sq⟩ := seq_at ht1 ok (M.kin.keeps hx) (win_sq hb1)
      obtain ⟨u0, u1, rfl, r0, r1⟩ := vals2 rvs
      have val : ∀ {pos : Pos}, EV P w B' cenv g (.Name "window" pos) (.ref b) := ev_loc FR (by show cenv.scope.names.lookup _ = _; rw [hs]; rfl) ns hm rv
      refine ev_pf FR G5 hrm (by show cenv.scope.names.lookup _ = _; rw [hs]; rfl) F5.mg F5.fn.kp F5.bd (ea_cons val ea_nil) rfl fun h e => ⟨b, bb, u0, u1, p.1, nonV p.2, rfl, sq.mono e, r0, r1, ?_, rfl⟩
      cases p.2 with
      | none => exact .inl rfl
      | some n => exact .inr ⟨n, rfl⟩
    · show Q (.bl ((List.range xs.length).all fun _ => true)) H4
      rw [all_true]
      exact kk H4 (ExT.ex' e1 (ExT.of_tab t4))
theorem ok_is_chain {f : Addr} {fd : FuncData} (M : L2.Mod K mg base) (G : Mg mg) (F : Fun K "is_chain" "is_chain" sIsChain f fd) (F1 : Fns K mg "is_of_parts" ["value", "many"] sIsOfParts fPar dPar) (F2 : Fns K mg "are_steps" ["gap", "pause"] sAreSteps fSt dSt) (G2 : FnOk P w K mg base CX0 2 fSt dSt ["gap", "pause"] (spV pSteps))
    (F3 : Fns K mg "is_number_or_none" ["value"] sIsNon fNon dNon) (F4 : Fns K mg "are_windows" ["value"] sAreWindows fWs dWs) (G4 : FnOk P w K mg base CX0 6 fWs dWs ["value"] (spWs K T)) (F5 : Fns K mg "is_sequence" ["value"] sIsSequence fSeq dSeq) (F6 : Fns K mg "is_number" ["value"] sIsNumber fNum dNum) (F7 : Fns K mg "is_integer" ["value"] sIsInteger fInt dInt) :
    FnOk P w K mg base CX0 7 f fd ["value"] (spIsCh K T) := by
  have G1 : FnOk P w K mg base CX0 2 fPar dPar ["value", "many"] (spPure P w base ["value", "many"] pOfParts) := (pf_is_of_parts M G F1.fn F5.fn F5.bd F5.mg).ok
  have G3 : FnOk P w K mg base CX0 3 fNon dNon ["value"] (spPure P w base ["value"] pNon) := (pf_is_non M G F3.fn F6.fn F6.bd F6.mg F7.fn F7.bd F7.mg).ok
  refine F.ok scIsChain (fun vs H Q E h => ?_) (fun cdv A outer s H vs Q E hr h => ?_)
  · obtain ⟨c, v, rfl, _⟩ := h
    rfl
  · obtain ⟨c, v, rfl, ok, ⟨a, e, xs, rfl, ha, he, hw⟩, ht, kk⟩ := h
    refine ⟨_, pss_cons (ps_if (pt_not (pt_val (pe_call G1 (hr.mono (by decide)) (by rfl) F1.mg F1.fn.kp F1.bd .nil pass0 (pa_cons (pv 0) (pa_cons pe_int pa_nil))))) (pss_one (ps_ret pe_bl)) pss_nil)
      (pss_cons (ps_asg (pv 0) (pg_seq rfl (pgs_cons (pg_name (i := 1) scIsChain.nd rfl (.inl rfl)) (pgs_cons (pg_name (i := 2) scIsChain.nd rfl (.inl rfl)) (pgs_cons (pg_name (i := 3) scIsChain.nd rfl (.inl rfl)) (pgs_cons (pg_name (i := 4) scIsChain.nd rfl (.inl rfl)) pgs_nil))))))
      (pss_one (ps_ret (pe_and (pe_call G2 (hr.mono (by decide)) (by rfl) F2.mg F2.fn.kp F2.bd .nil pass0 (pa_cons (pv 1) (pa_cons (pv 2) pa_nil))) (pe_and (pe_call G3 (hr.mono (by decide)) (by rfl) F3.mg F3.fn.kp F3.bd .nil pass0 (pa_cons (pv 3) pa_nil))
        (pe_one (pe_call G4 hr (by rfl) F4.mg F4.fn.kp F4.bd .nil pass0 (pa_cons (pv 4) pa_nil)))))))), ?_⟩
    refine q_when (b := !true) (et_not (et_B (ev_call (ea_cons (ev_var rfl) (ea_cons ev_c ea_nil)) (spPure.use rfl fun H1 e1 h ok bx => ?_)))) (fun z => nomatch z) fun _ H1 e1 => ?_
    · obtain ⟨bb, its, rv, sq⟩ := TyG.of_sq ok (M.kin.keeps bx) (SqE.ex ha e1)
      have hl := rv.length
      exact ⟨.ref a, some its.length, 4, rfl, .seq sq, by rw [← hl]; rfl⟩
    · have ha1 := SqE.ex ha e1
      refine ⟨.ref a, rfl, a, _, rfl, ha1, rfl, _, _, rfl, _, _, rfl, _, _, rfl, _, _, rfl, rfl, ?_⟩
      refine ⟨_, rfl, _, rfl, .bl true, ⟨c.g, c.p, rfl, ok.g1, ok.gp, ok.p9, rfl⟩, fun H2 e2 => ⟨true, rfl, iteT ?_⟩⟩
      obtain ⟨t, ty, hb⟩ : ∃ t, (∀ g, TyG g (nonV c.b) t) ∧ (decide (nonV c.b = .non) || isNum (nonV c.b)) = true := by
        cases c.b with
        | none => exact ⟨_, fun g => .non, rfl⟩
        | some n => exact ⟨_, fun g => .int _, by show (_ || isNum (.int (n : Int))) = true; rw [isNum_nat n]; simp⟩
      refine ev_call (σ := start ["value", "gap", "pause", "begin", "windows"] [.ref a] |>.set 1 (some (.int (c.g : Nat))) |>.set 2 (some (.int (c.p : Nat))) |>.set 3 (some (nonV c.b)) |>.set 4 (some (.ref e))) (z := .bl true) (ea_cons (ev_var rfl) ea_nil) (spPure.use rfl fun H3 _ h _ _ => ⟨nonV c.b, t, rfl, ty h, by rw [hb]⟩) H2 (Ex.refl H2) _ fun H3 e3 => ⟨true, rfl, iteT ?_⟩
      have e13 := (e1.trans e2).trans e3
      exact ⟨_, rfl, e, c.ws, xs, rfl, SqE.ex he e13, hw.ex e13, ok.wl, TabG.ex ht e13, fun H4 e4 => kk H4 (ExT.ex' e13 e4)⟩
end
end K04
set_option Elab.async false
set_option linter.all false
set_option maxRecDepth 100000
set_option maxHeartbeats 4000000
namespace K04
open PySem PySem.Spec PyProof.Rows L2 GxR Pu Evl
def nonI : Option Int → V
  | none => .non
  | some n => .int n
theorem nonV_eq (b : Option Nat) : nonV b = nonI (b.map fun n => (n : Int)) := by cases b <;> rfl
def winI (w : Nat × Option Nat) : Chn.Win := ((w.1 : Int), w.2.map fun n => (n : Int))
def StrT (H : Hp) (L : List (Int × Int)) (ys : List V) : Prop := Paired (fun (s : Int × Int) (v : V) => ∃ b, v = .ref b ∧ H b = some (.tup [.int s.1, .int s.2])) L ys
theorem StrT.ex {H H' : Hp} {L : List (Int × Int)} {ys : List V} (h : StrT H L ys) (e : Ex H H') : StrT H' L ys := Paired.mapP h fun _ _ ⟨b, h1, h2⟩ => ⟨b, h1, e _ _ h2⟩
theorem StrT.upd {H : Hp} {L : List (Int × Int)} {xs ys : List V} {D : Addr} {o : HO} (h : StrT H L xs) (hD : H D = some (.lst ys)) : StrT (upd H D o) L xs := Paired.mapP h fun p v ⟨b, h1, h2⟩ =>
  ⟨b, h1, by rw [upd_ne (ne_of h2 hD (by intro z; cases z))]; exact h2⟩
def pFirstS : List V → Hp → List V → Prop := fun vs H xs => ∃ (g p : Int) (b : Option Int), vs = [.int g, .int p, nonI b] ∧ xs = [.int (Chn.first g p b).1, .int (Chn.first g p b).2]
def pWithin : List V → Hp → List V → Prop := fun vs H xs => ∃ (a b : Addr) (s : Int × Int) (w : Chn.Win), vs = [.ref a, .ref b] ∧ H a = some (.tup [.int s.1, .int s.2]) ∧ H b = some (.tup [.int w.1, nonI w.2]) ∧ xs = [.int (Chn.cut s w).1, .int (Chn.cut s w).2]
section
variable {P : Program} {w : World} {K : PySem.W.Frag} {mg : Str → Option Value} {base : Heap} {T c : Addr}
variable {fInt fNum fSeq fPar fNN fSt fNon fWin fWs fIC : Addr} {dInt dNum dSeq dPar dNN dSt dNon dWin dWs dIC : FuncData}
theorem ok_check {f : Addr} {fd : FuncData} (G : Mg mg) (F : Fun K "check_chain" "check_chain" sCheckChain f fd) (F1 : Fns K mg "is_chain" ["value"] sIsChain fIC dIC) (G1 : FnOk P w K mg base CX0 7 fIC dIC ["value"] (spIsCh K T)) : FnOk P w K mg base CX0 8 f fd ["value"] (spChk K T) := by
  refine F.ok scCheck (fun vs H Q E h => ?_) (fun cdv A outer s H vs Q E hr h => ?_)
  · obtain ⟨c, v, rfl, _⟩ := h
    rfl
  · obtain ⟨c, v, rfl, ok, hc, ht, kk⟩ := h
    refine ⟨_, pss_cons (ps_if (pt_not (pt_val (pe_call G1 hr (by rfl) F1.mg F1.fn.kp F1.bd .nil pass0 (pa_cons (pv 0) pa_nil)))) pss_never pss_nil)
      (pss_cons (ps_asg (pv 0) (pg_seq rfl (pgs_cons (pg_name (i := 1) scCheck.nd rfl (.inl rfl)) (pgs_cons (pg_name (i := 2) scCheck.nd rfl (.inl rfl)) (pgs_cons (pg_name (i := 3) scCheck.nd rfl (.inl rfl)) (pgs_cons (pg_name (i := 4) scCheck.nd rfl (.inl rfl)) pgs_nil))))))
      (pss_one (ps_ret (pe_tup (pa_cons (pv 1) (pa_cons (pv 2) (pa_cons (pv 3) (pa_cons (pe_callTy call_tuple_of (by rfl) G.tuple (by decide +kernel) (pa_cons
        (pe_lc (own := [("window", 5)]) (te := tCB (rTupleOf K) (tCons (tVar 5) tNil)) (by rfl) scCheck.nd (pi_seq (pv 4)) (blkOk_by (own := [("window", 5)]) (N := ["value", "gap", "pause", "begin", "windows", "window"]) (sc := defScope sCheckChain) (by decide +kernel))
          (fun _ _ _ _ _ => pg_name (i := 5) scCheck.nd rfl (.inl rfl)) (fun _ _ _ _ _ => pts_nil) (fun _ _ _ _ _ => pe_callTy (T := "tuple") call_tuple_of (by rfl) G.tuple (by decide +kernel) (pa_cons (pv 5) pa_nil))) pa_nil)) pa_nil)))))))), ?_⟩
    refine ⟨_, rfl, c, v, rfl, ok, hc, ht, fun H1 e1 => ⟨_, rfl, ite2 (fun z => nomatch z) fun _ => ?_⟩⟩
    obtain ⟨a, e, xs, rfl, ha, he, hw⟩ := hc.exT ht e1
    have hxl : c.ws.length = xs.length := Paired.length hw
    have hwl := ok.wl
    refine ⟨.ref a, rfl, a, _, rfl, ha, rfl, _, _, rfl, _, _, rfl, _, _, rfl, _, _, rfl, rfl, ?_⟩
    refine ⟨_, rfl, _, rfl, _, rfl, .ref e, rfl, e, xs, rfl, he, fun J Gd wk hG D hD => ?_⟩
    refine lc_gen wk (fun i H' acc => WsT H' (c.ws.take i) acc) (by omega) hD (fun i H xs ys acc h r => r.upd h) .nil hG ?_ ?_
    · intro i x Ha Hb acc hi ex y hR Qy Qn hy hn
      obtain ⟨rfl, hx⟩ := y
      obtain ⟨p1, hpL, b, rfl, hb⟩ := Paired.at hw hx
      have tk : c.ws.take (i + 1) = c.ws.take i ++ [p1] := by rw [List.take_add_one, hpL]; rfl
      rcases win_ex hb ex with hb | hb
      · refine ⟨rfl, yes_then ⟨.ref b, rfl, b, [.int (p1.1 : Nat), nonV p1.2], rfl, .inr ⟨SqT.of hb, hy _ _ (Ex.refl _) ?_⟩⟩⟩
        rw [tk]
        exact hR.snoc hb
      · refine ⟨rfl, yes_then ⟨.ref b, rfl, b, [.int (p1.1 : Nat), nonV p1.2], rfl, .inl ⟨hb, fun r hr => hy _ _ (Ex.new hr) ?_⟩⟩⟩
        rw [tk]
        exact (hR.ex (Ex.new hr)).snoc upd_same
    · intro H5 acc e5 hD5 hR
      rw [← hxl, List.take_length] at hR
      refine ⟨D, acc, rfl, .inl ⟨SqL.of hD5, fun t hT => ?_⟩⟩
      have e6 := Ex.new (H := H5) (o := .tup acc) hT
      refine ⟨by show 4 ≤ sizeLine; decide, fun q hq => ?_⟩
      have e7 := Ex.new (H := upd H5 t (.tup acc)) (o := .tup [V.int c.g, V.int c.p, nonV c.b, .ref t]) hq
      exact kk q _ (ExT.fresh ht e1 (fresh_back (e5.trans e6) hq)) (e1.ex ((e5.trans e6).trans e7)) ⟨q, t, acc, rfl, upd_same, e7 _ _ upd_same, hR.ex (e6.trans e7)⟩
theorem ok_first {f : Addr} {fd : FuncData} (F : Fun K "first_steps" "first_steps" sFirstSteps f fd) : FnOk P w K mg base CX0 1 f fd ["gap", "pause", "begin"] (spT pFirstS) := by
  refine F.ok scFirst (fun vs H Q E h => ?_) (fun cdv A outer s H vs Q E hr h => ?_)
  · obtain ⟨xs, ⟨g, p, b, rfl, _⟩, _⟩ := h
    rfl
  · obtain ⟨xs, ⟨g, p, b, rfl, rfl⟩, kk⟩ := h
    refine ⟨_, pss_cons (ps_if (pt_cmp (pc_isN (pv 2))) (pss_one (ps_ret (pe_tup (pa_cons pe_int (pa_cons (pv 1) pa_nil))))) pss_nil)
      (pss_one (ps_ret (pe_tup (pa_cons (pe_op op_add (pv 2) (pv 0)) (pa_cons (pe_op op_add (pv 2) (pv 1)) pa_nil))))), ?_⟩
    cases b with
    | none => exact ⟨.non, rfl, _, rfl, ite2 (fun _ => ⟨_, rfl, by show 2 ≤ sizeLine; decide, fun q hq => kk q _ hq (Ex.new hq) upd_same⟩) fun z => absurd rfl z⟩
    | some b => exact ⟨.int b, rfl, _, rfl, ite2 (fun z => nomatch z) fun _ => ⟨_, rfl, _, rfl, b, g, rfl, rfl, _, rfl, _, rfl, b, p, rfl, rfl, by show 2 ≤ sizeLine; decide, fun q hq => kk q _ hq (Ex.new hq) upd_same⟩⟩
theorem max_if (i j : Int) : (if j > i then j else i) = max i j := by split <;> omega
theorem min_if (i j : Int) : (if j < i then j else i) = min i j := by split <;> omega
theorem ok_within {f : Addr} {fd : FuncData} (G : Mg mg) (F : Fun K "within" "within" sWithin f fd) : FnOk P w K mg base CX0 1 f fd ["stretch", "window"] (spT pWithin) := by
  refine F.ok scWithin (fun vs H Q E h => ?_) (fun cdv A outer s H vs Q E hr h => ?_)
  · obtain ⟨xs, ⟨a, b, s, w, rfl, _⟩, _⟩ := h
    rfl
  · obtain ⟨xs, ⟨a, b, s, w, rfl, ha, hb, rfl⟩, kk⟩ := h
    refine ⟨_, pss_cons (ps_asg (pv 1) (pg_tup rfl (pgs_cons (pg_name (i := 2) scWithin.nd rfl (.inl rfl)) (pgs_cons (pg_name (i := 3) scWithin.nd rfl (.inl rfl)) pgs_nil))))
      (pss_cons (ps_set (i := 4) scWithin.nd rfl (.inl rfl) (pe_ifExp (pt_cmp (pc_isN (pv 3))) (pe_ix ix_tup (pv 0) pe_int (fun _ _ => rfl)) (pe_callB (call_min2 rfl) (by rfl) G.min boot_min (pa_cons (pe_ix ix_tup (pv 0) pe_int (fun _ _ => rfl)) (pa_cons (pv 3) pa_nil)))))
      (pss_one (ps_ret (pe_tup (pa_cons (pe_callB (call_max2 rfl) (by rfl) G.max boot_max (pa_cons (pe_ix ix_tup (pv 0) pe_int (fun _ _ => rfl)) (pa_cons (pv 2) pa_nil))) (pa_cons (pv 4) pa_nil)))))), ?_⟩
    obtain ⟨lo, hi⟩ := w
    have i0 : atI [V.int s.1, V.int s.2] ((0 : Nat) : Int) = some (V.int s.1) := atI_nat rfl
    have i1 : atI [V.int s.1, V.int s.2] ((1 : Nat) : Int) = some (V.int s.2) := atI_nat rfl
    refine ⟨.ref b, rfl, b, _, rfl, SqT.of hb, rfl, _, _, rfl, _, _, rfl, rfl, ?_⟩
    cases hi with
    | none =>
      refine ⟨.non, rfl, _, rfl, ite2 (fun _ => ?_) fun z => absurd rfl z⟩
      refine ⟨.ref a, rfl, a, _, 1, _, rfl, rfl, SqT.of ha, i1, ?_⟩
      refine ⟨.ref a, rfl, a, _, 0, _, rfl, rfl, SqT.of ha, i0, _, rfl, s.1, lo, rfl, _, rfl, by show 2 ≤ sizeLine; decide, fun q hq => kk q _ hq (Ex.new hq) ?_⟩
      rw [max_if]
      exact upd_same
    | some k =>
      refine ⟨.int k, rfl, _, rfl, ite2 (fun z => nomatch z) fun _ => ?_⟩
      refine ⟨.ref a, rfl, a, _, 1, _, rfl, rfl, SqT.of ha, i1, _, rfl, s.2, k, rfl, ?_⟩
      refine ⟨.ref a, rfl, a, _, 0, _, rfl, rfl, SqT.of ha, i0, _, rfl, s.1, lo, rfl, _, rfl, by show 2 ≤ sizeLine; decide, fun q hq => kk q _ hq (Ex.new hq) ?_⟩
      rw [max_if, min_if]
      exact upd_same
end
end K04
set_option Elab.async false
set_option linter.all false
set_option maxRecDepth 100000
set_option maxHeartbeats 4000000
namespace K04
open PySem PySem.Spec PyProof.Rows L2 GxR Pu Evl
theorem scForward : FnScope ["chain", "gap", "pause", "begin", "windows", "stretches", "stretch", "window"] ["chain"] (defScope sForward) := ⟨rfl, rfl, rfl, by decide +kernel, rfl, by decide +kernel, by decide +kernel⟩
theorem scStretches : FnScope ["chain", "gap", "pause", "_", "windows", "stretches", "row", "low", "high"] ["chain"] (defScope sStretchesOf) := ⟨rfl, rfl, rfl, by decide +kernel, rfl, by decide +kernel, by decide +kernel⟩
def Ch.fwd (c : Ch) : List (Int × Int) := Chn.fwd c.g c.p (Chn.first c.g c.p (c.b.map fun n => (n : Int))) (c.ws.map winI)
def spFwd : Sp := fun vs H Q _ => ∃ (c : Ch) (v : V), vs = [v] ∧ c.ws.length ≤ 200 ∧ ChT H c v ∧ ∀ p ys H', H p = none → Ex H H' → H' p = some (.lst ys) → StrT H' c.fwd ys → Q (.ref p) H'
section
variable {P : Program} {w : World} {K : PySem.W.Frag} {mg : Str → Option Value} {base : Heap} {T c : Addr}
variable {fFi fWi fFw : Addr} {dFi dWi dFw : FuncData}
theorem StrT.snoc {H : Hp} {L : List (Int × Int)} {ys : List V} {s : Int × Int} {q : Addr} (h : StrT H L ys) (e : H q = some (.tup [.int s.1, .int s.2])) : StrT H (L ++ [s]) (ys ++ [.ref q]) := Paired.app h (.cons ⟨q, rfl, e⟩ .nil)
theorem ok_forward {f : Addr} {fd : FuncData} (G : Mg mg) (F : Fun K "forward" "forward" sForward f fd) (F1 : Fns K mg "first_steps" ["gap", "pause", "begin"] sFirstSteps fFi dFi) (F2 : Fns K mg "within" ["stretch", "window"] sWithin fWi dWi) : FnOk P w K mg base CX0 2 f fd ["chain"] spFwd := by
  have G1 : FnOk P w K mg base CX0 1 fFi dFi ["gap", "pause", "begin"] (spT pFirstS) := ok_first F1.fn
  have G2 : FnOk P w K mg base CX0 1 fWi dWi ["stretch", "window"] (spT pWithin) := ok_within G F2.fn
  refine F.ok scForward (fun vs H Q E h => ?_) (fun cdv A outer s H vs Q E hr h => ?_)
  · obtain ⟨c, v, rfl, _⟩ := h
    rfl
  · obtain ⟨c, v, rfl, wl, ⟨a, e, xs, rfl, ha, he, hw⟩, kk⟩ := h
    refine ⟨_, pss_cons (ps_asg (pv 0) (pg_tup rfl (pgs_cons (pg_name (i := 1) scForward.nd rfl (.inl rfl)) (pgs_cons (pg_name (i := 2) scForward.nd rfl (.inl rfl)) (pgs_cons (pg_name (i := 3) scForward.nd rfl (.inl rfl)) (pgs_cons (pg_name (i := 4) scForward.nd rfl (.inl rfl)) pgs_nil))))))
      (pss_cons (ps_set (i := 5) scForward.nd rfl (.inl rfl) (pe_lst pa_nil))
      (pss_cons (ps_set (i := 6) scForward.nd rfl (.inl rfl) (pe_call G1 hr (by rfl) F1.mg F1.fn.kp F1.bd .nil pass0 (pa_cons (pv 1) (pa_cons (pv 2) (pa_cons (pv 3) pa_nil)))))
      (pss_cons (ps_for PassesOwn.never rfl (pi_tup (pv 4)) (pg_name (i := 7) scForward.nd rfl (.inl rfl))
        (pss_cons (ps_set (i := 6) scForward.nd rfl (.inl rfl) (pe_call G2 hr (by rfl) F2.mg F2.fn.kp F2.bd .nil pass0 (pa_cons (pv 6) (pa_cons (pv 7) pa_nil))))
        (pss_cons (ps_expr (pe_bm PySem.F.plainAttrs_list PySem.F.slot_list_append PySem.F.type_list_append mt_append (pv 5) (pa_cons (pv 6) pa_nil)))
        (pss_one (ps_set (i := 6) scForward.nd rfl (.inl rfl) (pe_tup (pa_cons (pe_op op_add (pe_ix ix_tup (pv 6) pe_int (fun _ _ => rfl)) (pv 1)) (pa_cons (pe_op op_add (pe_ix ix_tup (pv 6) pe_int (fun _ _ => rfl)) (pv 2)) pa_nil))))))))
      (pss_one (ps_ret (pv 5)))))), ?_⟩
    have hxl : c.ws.length = xs.length := Paired.length hw
    refine ⟨.ref a, rfl, a, _, rfl, SqT.of ha, rfl, _, _, rfl, _, _, rfl, _, _, rfl, _, _, rfl, rfl, ?_⟩
    refine q_asgL (xs := []) (el_lst ea_nil (by decide)) fun p H1 hp e1 h1 => ?_
    refine q_asgU (eu_call (pre := pFirstS) (K := K) (vs := [.int (c.g : Nat), .int (c.p : Nat), nonV c.b]) (ea_cons (ev_var rfl) (ea_cons (ev_var rfl) (ea_cons (ev_var rfl) ea_nil))) fun Hx _ => ⟨c.g, c.p, c.b.map fun n => (n : Int), by rw [nonV_eq]; rfl, rfl⟩) fun q H2 hq e2 h2 => ?_
    refine q_forT (a := e) (xs := xs) (ev_var rfl) (SqT.of ((e1.trans e2) _ _ he)) (fun i σ' H' => ∃ (q : Addr) (y : Option V) (L : List (Int × Int)) (ys : List V) (st : Int × Int), σ' = [some (.ref a), some (.int (c.g : Nat)), some (.int (c.p : Nat)), some (nonV c.b), some (.ref e), some (.ref p), some (.ref q), y] ∧
      Ex H H' ∧ H' p = some (.lst ys) ∧ StrT H' L ys ∧ H' q = some (.tup [.int st.1, .int st.2]) ∧ L.length = i ∧ c.fwd = L ++ Chn.fwd c.g c.p st ((c.ws.map winI).drop i)) (fun H3 e3 => ?_) (fun i σ' H' hi p1 => ?_) (fun i x σ' H' hx p1 => ?_) fun σ' H' p1 => ?_
    · exact ⟨q, none, [], [], _, rfl, (e1.trans e2).trans e3, (e2.trans e3) _ _ h1, .nil, e3 _ _ h2, rfl, rfl⟩
    · obtain ⟨_, _, _, _, _, _, ex, _⟩ := p1
      exact SqT.of (ex _ _ he)
    · obtain ⟨q, y, L, ys, st, rfl, ex, hP, hL, hq, hn, hf⟩ := p1
      obtain ⟨w1, hwL, b, rfl, hb⟩ := Paired.at hw hx
      have hi : i < c.ws.length := (List.getElem?_eq_some_iff.mp hwL).1
      have hd : (c.ws.map winI).drop i = winI w1 :: (c.ws.map winI).drop (i + 1) := by
        rw [List.drop_eq_getElem_cons (by rw [List.length_map]; exact hi)]
        congr 1
        rw [List.getElem_map]
        rw [List.getElem?_eq_getElem hi] at hwL
        rw [Option.some.inj hwL]
      rw [hd] at hf
      refine q_asgU (eu_call (pre := pWithin) (K := K) (vs := [.ref q, .ref b]) (xs := [.int (Chn.cut st (winI w1)).1, .int (Chn.cut st (winI w1)).2]) (ea_cons (ev_var rfl) (ea_cons (ev_var rfl) ea_nil)) fun Hx ex2 => ⟨q, b, st, winI w1, rfl, ex2 _ _ hq, ?_, rfl⟩) fun q2 H3 hq2 e3 h3 => ?_
      · have z := (ex.trans ex2) _ _ hb
        rw [nonV_eq] at z
        exact z
      have hP3 := e3 _ _ hP
      have hys : ys.length < 100000 := by
        have : L.length = ys.length := Paired.length hL
        omega
      refine q_app (K := K) hP3 (ev_var rfl) (ev_var (v := .ref q2) rfl) hys fun H4 e4 => ?_
      have hP4 := e4 _ _ hP3
      have hp0 : H p = none := hp
      have m4 := Ex.mut (H := H) (H' := H4) (o := .lst (ys ++ [.ref q2])) ((ex.trans e3).trans e4) hp0
      have q24 : upd H4 p (.lst (ys ++ [.ref q2])) q2 = some (.tup [.int (Chn.cut st (winI w1)).1, .int (Chn.cut st (winI w1)).2]) := by
        have z := e4 _ _ h3
        rw [upd_ne (ne_of z hP4 (by intro z; cases z))]
        exact z
      have i0 : atI [V.int (Chn.cut st (winI w1)).1, V.int (Chn.cut st (winI w1)).2] ((0 : Nat) : Int) = some (V.int (Chn.cut st (winI w1)).1) := atI_nat rfl
      have i1 : atI [V.int (Chn.cut st (winI w1)).1, V.int (Chn.cut st (winI w1)).2] ((1 : Nat) : Int) = some (V.int (Chn.cut st (winI w1)).2) := atI_nat rfl
      refine s_asgU (xs := [.int ((Chn.cut st (winI w1)).1 + c.g), .int ((Chn.cut st (winI w1)).2 + c.p)]) (eu_tup (ea_cons (ev_op (ev_op (ev_var rfl) ev_c (rv_ixT (SqT.of q24) i0)) (ev_var rfl) rv_I0) (ea_cons (ev_op (ev_op (ev_var rfl) ev_c (rv_ixT (SqT.of q24) i1)) (ev_var rfl) rv_I0) ea_nil)) (by show 2 ≤ 100000; decide)) fun q5 H5 hq5 e5 h5 => ?_
      refine ⟨q5, _, L ++ [Chn.cut st (winI w1)], ys ++ [.ref q2], ((Chn.cut st (winI w1)).1 + c.g, (Chn.cut st (winI w1)).2 + c.p), rfl, m4.trans e5, e5 _ _ upd_same, ?_, h5, by rw [List.length_append, hn]; rfl, ?_⟩
      · exact (((hL.ex (e3.trans e4)).upd hP4).snoc q24).ex e5
      · rw [hf, List.append_assoc]
        rfl
    · obtain ⟨q, y, L, ys, st, rfl, ex, hP, hL, hq, hn, hf⟩ := p1
      have hd : (c.ws.map winI).drop xs.length = [] := List.drop_eq_nil_of_le (by rw [List.length_map]; omega)
      rw [hd] at hf
      have hf2 : c.fwd = L := by rw [hf]; show L ++ [] = L; rw [List.append_nil]
      rw [← hf2] at hL
      exact ⟨_, rfl, kk p ys H' hp ex hP hL⟩
end
end K04
set_option Elab.async false
set_option linter.all false
/-! the loop from the end, one row at a time -/
namespace Chn
theorem bck_len {g p : Int} : ∀ L : List (Int × Int), (bck g p L).length = L.length
  | [] => rfl
  | x :: r => by
    rw [bck_cons]
    have ih := bck_len (g := g) (p := p) r
    cases h : bck g p r with
    | nil =>
      rw [h] at ih
      show 1 = r.length + 1
      rw [← ih]
      rfl
    | cons y t =>
      rw [h] at ih
      show (y :: t).length + 1 = r.length + 1
      rw [ih]
theorem bck_one {g p : Int} : ∀ {L : List (Int × Int)}, L.length ≤ 1 → bck g p L = L
  | [], _ => rfl
  | [_], _ => rfl
  | _ :: _ :: _, h => by simp at h
/-- what the loop holds when m rows ahead are still as they were -/
def part (g p : Int) (F : List (Int × Int)) (m : Nat) : List (Int × Int) := F.take m ++ bck g p (F.drop m)
theorem part_len {g p : Int} (F : List (Int × Int)) (m : Nat) : (part g p F m).length = F.length := by
  unfold part
  rw [List.length_append, bck_len, List.length_take, List.length_drop]
  omega
theorem part_start {g p : Int} (F : List (Int × Int)) : part g p F (F.length - 1) = F := by
  unfold part
  rw [bck_one (by rw [List.length_drop]; omega), List.take_append_drop]
theorem part_end {g p : Int} (F : List (Int × Int)) : part g p F 0 = bck g p F := rfl
/-- one row: its stretch, the one behind it, and what becomes of them -/
theorem part_step {g p : Int} {F : List (Int × Int)} {m : Nat} (h : m + 1 < F.length) : ∃ x y, (part g p F (m + 1))[m]? = some x ∧ (part g p F (m + 1))[m + 1]? = some y ∧ part g p F m = (part g p F (m + 1)).set m (cut x (y.1 - p, some (y.2 - g))) := by
  have hd : F.drop m = F[m] :: F.drop (m + 1) := List.drop_eq_getElem_cons (by omega)
  have lt : (F.take (m + 1)).length = m + 1 := by rw [List.length_take]; omega
  cases hb : bck g p (F.drop (m + 1)) with
  | nil =>
    have := bck_len (g := g) (p := p) (F.drop (m + 1))
    rw [hb, List.length_drop] at this
    have z : 0 = F.length - (m + 1) := this
    omega
  | cons y t =>
    have tk : F.take (m + 1) = F.take m ++ [F[m]] := by rw [List.take_add_one, List.getElem?_eq_getElem (by omega)]; rfl
    have lm : (F.take m).length = m := by rw [List.length_take]; omega
    refine ⟨F[m], y, ?_, ?_, ?_⟩
    · unfold part
      rw [List.getElem?_append_left (by rw [lt]; omega), tk, List.getElem?_append_right (by rw [lm]; exact Nat.le_refl m), lm, Nat.sub_self]
      rfl
    · unfold part
      rw [List.getElem?_append_right (by rw [lt]; exact Nat.le_refl _), lt, Nat.sub_self, hb]
      rfl
    · unfold part
      rw [hd, bck_cons, hb, tk, List.append_assoc]
      show F.take m ++ (cut F[m] (y.1 - p, some (y.2 - g)) :: y :: t) = _
      rw [List.set_append_right _ _ (by rw [lm]; exact Nat.le_refl m), lm, Nat.sub_self]
      rfl
end Chn
set_option Elab.async false
set_option linter.all false
set_option maxRecDepth 100000
set_option maxHeartbeats 4000000
namespace K04
open PySem PySem.Spec PyProof.Rows L2 GxR Pu Evl
def Ch.bck (c : Ch) : List (Int × Int) := Chn.bck c.g c.p c.fwd
def spStr : Sp := fun vs H Q _ => ∃ (c : Ch) (v : V), vs = [v] ∧ c.ws.length ≤ 200 ∧ ChT H c v ∧ (¬ Chn.Full c.bck → ∀ H', Ex H H' → Q .non H') ∧ (Chn.Full c.bck → ∀ p ys H', H p = none → Ex H H' → H' p = some (.lst ys) → StrT H' c.bck ys → Q (.ref p) H')
theorem Paired.set {α β : Type} {F : α → β → Prop} {x : α} {y : β} (h : F x y) : ∀ {l : List α} {m : List β} (i : Nat), Paired F l m → Paired F (l.set i x) (m.set i y)
  | _, _, _, .nil => .nil
  | _, _, 0, .cons _ t => .cons h t
  | _, _, i + 1, .cons r t => .cons r (Paired.set h i t)
theorem Paired.at2 {α β : Type} {F : α → β → Prop} : ∀ {l : List α} {m : List β} {i : Nat} {x : α}, Paired F l m → l[i]? = some x → ∃ y, m[i]? = some y ∧ F x y
  | _, _, _, _, .nil, e => by simp at e
  | _, _, 0, _, .cons r _, e => by simp at e; subst e; exact ⟨_, rfl, r⟩
  | _, _, i + 1, x, .cons _ t, e => by
    obtain ⟨y, h1, h2⟩ := Paired.at2 (i := i) (x := x) t (by simpa using e)
    exact ⟨y, by simpa using h1, h2⟩
theorem fwd_len {g p : Int} : ∀ (ws : List Chn.Win) (s : Int × Int), (Chn.fwd g p s ws).length = ws.length
  | [], _ => rfl
  | w :: ws, s => by
    show (Chn.fwd g p _ ws).length + 1 = ws.length + 1
    rw [fwd_len ws]
theorem Ch.fwd_len (c : Ch) : c.fwd.length = c.ws.length := by
  unfold Ch.fwd
  rw [K04.fwd_len, List.length_map]
theorem wipe2 {σ : L2.St} {i j : Nat} {x y : Option V} (h : i ≠ j) : wipe (((wipe σ [i, j]).set i x).set j y) [i, j] = wipe σ [i, j] := by
  show (((((σ.set j none).set i none).set i x).set j y).set j none).set i none = (σ.set j none).set i none
  rw [List.set_set, List.set_set, List.set_comm _ _ h, List.set_set, List.set_set]
theorem full_any (L : List (Int × Int)) : (L.map fun s => decide (s.2 < s.1)).any id = true ↔ ¬ Chn.Full L := by
  rw [List.any_eq_true]
  constructor
  · rintro ⟨b, hb, e⟩ f
    obtain ⟨s, hs, rfl⟩ := List.mem_map.mp hb
    have := f s hs
    have e2 : decide (s.2 < s.1) = true := e
    have := of_decide_eq_true e2
    omega
  · intro f
    apply Classical.byContradiction
    intro n
    refine f fun s hs => ?_
    apply Classical.byContradiction
    intro z
    exact n ⟨_, List.mem_map.mpr ⟨s, hs, rfl⟩, decide_eq_true (by omega)⟩
section
variable {P : Program} {w : World} {K : PySem.W.Frag} {mg : Str → Option Value} {base : Heap} {T c : Addr}
variable {fFi fWi fFw : Addr} {dFi dWi dFw : FuncData}
theorem ok_stretches {f : Addr} {fd : FuncData} (G : Mg mg) (hany : mg "any" = none) (F : Fun K "stretches_of" "stretches_of" sStretchesOf f fd) (F1 : Fns K mg "forward" ["chain"] sForward fFw dFw) (G1 : FnOk P w K mg base CX0 2 fFw dFw ["chain"] spFwd) (F2 : Fns K mg "within" ["stretch", "window"] sWithin fWi dWi) : FnOk P w K mg base CX0 3 f fd ["chain"] spStr := by
  have G2 : FnOk P w K mg base CX0 1 fWi dWi ["stretch", "window"] (spT pWithin) := ok_within G F2.fn
  refine F.ok scStretches (fun vs H Q E h => ?_) (fun cdv A outer s H vs Q E hr h => ?_)
  · obtain ⟨c, v, rfl, _⟩ := h
    rfl
  · obtain ⟨c, v, rfl, wl, hch, kn, kk⟩ := h
    refine ⟨_, pss_cons (ps_asg (pv 0) (pg_tup rfl (pgs_cons (pg_name (i := 1) scStretches.nd rfl (.inl rfl)) (pgs_cons (pg_name (i := 2) scStretches.nd rfl (.inl rfl)) (pgs_cons (pg_name (i := 3) scStretches.nd rfl (.inl rfl)) (pgs_cons (pg_name (i := 4) scStretches.nd rfl (.inl rfl)) pgs_nil))))))
      (pss_cons (ps_set (i := 5) scStretches.nd rfl (.inl rfl) (pe_call G1 hr (by rfl) F1.mg F1.fn.kp F1.bd .nil pass0 (pa_cons (pv 0) pa_nil)))
      (pss_cons (ps_for PassesOwn.never rfl (pi_revR (by rfl) G.reversed (prg_1 (by rfl) G.range (pe_op op_sub (pe_callB call_len (by rfl) G.len boot_len (pa_cons (pv 4) pa_nil)) pe_int))) (pg_name (i := 6) scStretches.nd rfl (.inl rfl))
        (pss_cons (ps_asg (pe_ix ix_list (pv 5) (pe_op op_add (pv 6) pe_int) (fun _ _ => rfl)) (pg_tup rfl (pgs_cons (pg_name (i := 7) scStretches.nd rfl (.inl rfl)) (pgs_cons (pg_name (i := 8) scStretches.nd rfl (.inl rfl)) pgs_nil))))
        (pss_one (ps_asg (pe_call G2 (hr.mono (by decide)) (by rfl) F2.mg F2.fn.kp F2.bd .nil pass0 (pa_cons (pe_ix ix_list (pv 5) (pv 6) (fun _ _ => rfl)) (pa_cons (pe_tup (pa_cons (pe_op op_sub (pv 7) (pv 2)) (pa_cons (pe_op op_sub (pv 8) (pv 1)) pa_nil))) pa_nil)))
          (pg_sub (pv 5) (pv 6) set_list (fun _ => rfl))))))
      (pss_cons (ps_if (pt_val (pe_callB (cr_any rfl) (by rfl) hany (by decide +kernel) (pa_cons (pe_lc (own := [("low", 7), ("high", 8)]) (g := gSeq K 2 (gCons (gName 7) (gCons (gName 8) gNil))) (te := tOp (rI0 fun i j => .bl (decide (j < i))) (tVar 7) (tVar 8)) (by rfl) scStretches.nd (pi_seq (pv 5))
          (blkOk_by (own := [("low", 7), ("high", 8)]) (N := ["chain", "gap", "pause", "_", "windows", "stretches", "row", "low", "high"]) (sc := defScope sStretchesOf) (by decide +kernel))
          (fun _ _ _ _ _ => pg_seq rfl (pgs_cons (pg_name (i := 7) scStretches.nd rfl (.inl rfl)) (pgs_cons (pg_name (i := 8) scStretches.nd rfl (.inl rfl)) pgs_nil))) (fun _ _ _ _ _ => pts_nil) (fun _ _ _ _ _ => pe_cmpR op_gt (pv 7) (pv 8) (nomark _))) pa_nil))) (pss_one (ps_ret pe_non)) pss_nil)
      (pss_one (ps_ret (pv 5)))))), ?_⟩
    have hch0 := hch
    obtain ⟨a, e, xs, rfl, ha, he, hw⟩ := hch
    have hxl : c.ws.length = xs.length := Paired.length hw
    have hfl := c.fwd_len
    refine ⟨.ref a, rfl, a, _, rfl, SqT.of ha, rfl, _, _, rfl, _, _, rfl, _, _, rfl, _, _, rfl, rfl, ?_⟩
    refine ⟨_, rfl, c, .ref a, rfl, wl, hch0, fun p ys H1 hp e1 h1 hL => ?_⟩
    obtain ⟨n, hn⟩ : ∃ n, n = xs.length - 1 := ⟨_, rfl⟩
    have eN : (((xs.length : Nat) : Int) - 1 - 0).toNat = n := by omega
    refine ⟨.ref e, rfl, .ref e, xs.length, rfl, .inr ⟨xs, SqT.of (e1 _ _ he), rfl⟩, xs.length, 1, rfl, rfl, _, rfl, by omega, by omega, by omega, by omega, for_it walk_rangeC (fun i σ' H' => ∃ (y6 y7 y8 : Option V) (ys : List V), σ' = [some (.ref a), some (.int (c.g : Nat)), some (.int (c.p : Nat)), some (nonV c.b), some (.ref e), some (.ref p), y6, y7, y8] ∧
      Ex H H' ∧ H' p = some (.lst ys) ∧ StrT H' (Chn.part c.g c.p c.fwd (n - i)) ys) ?_ (fun _ _ _ _ _ => True.intro) (fun i x σ' Ha Hb hi p1 hy => ?_) fun σ' H' p1 => ?_⟩
    · refine ⟨none, none, none, ys, rfl, e1, h1, ?_⟩
      rw [Nat.sub_zero, hn, ← hxl, ← hfl, Chn.part_start]
      exact hL
    · obtain ⟨y6, y7, y8, ys, rfl, ex, hP, hS⟩ := p1
      obtain ⟨rfl, rfl⟩ := hy
      rw [eN] at hi
      obtain ⟨m, hm⟩ : ∃ m, n - i = m + 1 := ⟨n - i - 1, by omega⟩
      have em : n - (i + 1) = m := by omega
      rw [hm] at hS
      obtain ⟨x0, y0, hx0, hy0, hst⟩ := Chn.part_step (g := c.g) (p := c.p) (F := c.fwd) (m := m) (by omega)
      obtain ⟨v0, hv0, b0, rfl, hb0⟩ := Paired.at2 hS hx0
      obtain ⟨v1, hv1, b1, rfl, hb1⟩ := Paired.at2 hS hy0
      have row : (0 : Int) + ((((xs.length : Nat) : Int) - 1 - 0).toNat : Nat) - 1 + (i : Nat) * (-1) = (m : Int) := by rw [eN]; omega
      have row1 : (m : Int) + 1 = ((m + 1 : Nat) : Int) := rfl
      have hml : m < ys.length := (List.getElem?_eq_some_iff.mp hv0).1
      show tSeq _ _ _ ([some (.ref a), some (.int (c.g : Nat)), some (.int (c.p : Nat)), some (nonV c.b), some (.ref e), some (.ref p), some (.int ((0 : Int) + ((((xs.length : Nat) : Int) - 1 - 0).toNat : Nat) - 1 + (i : Nat) * (-1))), y7, y8]) Hb
      rw [row]
      refine ⟨.ref p, rfl, .int m, rfl, m, 1, rfl, rfl, p, ys, ((m + 1 : Nat) : Int), .ref b1, rfl, rfl, SqL.of hP, atI_nat hv1, b1, _, rfl, SqT.of hb1, rfl, _, _, rfl, _, _, rfl, rfl, ?_⟩
      refine ⟨.ref p, rfl, .int m, rfl, p, ys, m, .ref b0, rfl, rfl, SqL.of hP, atI_nat hv0, _, rfl, _, rfl, y0.1, c.p, rfl, rfl, _, rfl, _, rfl, y0.2, c.g, rfl, rfl, by show 2 ≤ sizeLine; decide, fun t ht => ?_⟩
      have e2 := Ex.new ht (o := .tup [V.int (y0.1 - c.p), V.int (y0.2 - c.g)])
      refine ⟨_, ⟨b0, t, x0, (y0.1 - c.p, some (y0.2 - c.g)), rfl, e2 _ _ hb0, upd_same, rfl⟩, fun q H3 hq e3 h3 => ?_⟩
      have hP3 := (e2.trans e3) _ _ hP
      refine ⟨.ref p, rfl, .int m, rfl, p, ys, m, m, rfl, rfl, hP3, ixN_nat hml, ?_⟩
      refine ⟨_, _, _, ys.set m (.ref q), rfl, Ex.mut (H := H) ((ex.trans e2).trans e3) hp, upd_same, ?_⟩
      rw [em, hst]
      have S3 := hS.ex (e2.trans e3)
      have S4 : StrT H3 ((Chn.part c.g c.p c.fwd (m + 1)).set m (Chn.cut x0 (y0.1 - c.p, some (y0.2 - c.g)))) (ys.set m (.ref q)) := Paired.set ⟨q, rfl, h3⟩ m S3
      exact S4.upd hP3
    · obtain ⟨y6, y7, y8, ys, rfl, ex, hP, hS⟩ := p1
      rw [eN, Nat.sub_self, Chn.part_end] at hS
      have hS : StrT H' c.bck ys := hS
      have hbl : c.bck.length = ys.length := Paired.length hS
      have hbw : c.bck.length = c.ws.length := by
        unfold Ch.bck
        rw [Chn.bck_len, hfl]
      refine ⟨.ref p, rfl, p, ys, rfl, .inr (SqL.of hP), fun J Gd wk hG D hD => ?_⟩
      refine lc_gen wk (fun i H' acc => acc = ((c.bck.take i).map fun s => decide (s.2 < s.1)).map V.bl) (by omega) hD (fun i H xs ys acc h r => r) rfl hG ?_ ?_
      · intro i x Ha Hb acc hi ex2 y hR Qy Qn hy hn2
        obtain ⟨rfl, hx⟩ := y
        obtain ⟨s1, hsL, b, rfl, hb⟩ := Paired.at hS hx
        refine ⟨b, _, rfl, .inl (SqT.of (ex2 _ _ hb)), rfl, _, _, rfl, _, _, rfl, rfl, rfl, yes_then ⟨_, rfl, _, rfl, s1.1, s1.2, rfl, rfl, hy _ _ (Ex.refl _) ?_⟩⟩
        rw [hR, List.take_add_one, hsL]
        show _ = (((c.bck.take i ++ [s1]).map fun s => decide (s.2 < s.1)).map V.bl)
        rw [List.map_append, List.map_append]
        rfl
      · intro H5 acc e5 hD5 hR
        rw [← hbl, List.take_length] at hR
        subst hR
        refine ⟨D, c.bck.map fun s => decide (s.2 < s.1), rfl, SqL.of hD5, _, rfl, ite2 (fun z => ?_) fun z => ?_⟩
        · exact kn ((full_any _).mp z) H5 (ex.trans e5)
        · have fu : Chn.Full c.bck := Classical.byContradiction fun n => z ((full_any _).mpr n)
          exact ⟨_, rfl, kk fu p ys H5 hp (ex.trans e5) (e5 _ _ hP) (hS.ex e5)⟩
end
end K04
set_option Elab.async false
set_option linter.all false
set_option maxRecDepth 100000
set_option maxHeartbeats 4000000
namespace K04
open PySem PySem.Spec PyProof.Rows L2 GxR Pu Evl
theorem scBox : FnScope ["_law_script", "_law_k", "_law_cell", "_law_great"] ["_law_script", "_law_k"] (defScope sBox) := ⟨rfl, rfl, rfl, by decide +kernel, rfl, by decide +kernel, by decide +kernel⟩
theorem scTake : FnScope ["_law_box_here", "_law_many", "_law_digit", "_law_raw"] ["_law_box_here", "_law_many"] (defScope sTake) := ⟨rfl, rfl, rfl, by decide +kernel, rfl, by decide +kernel, by decide +kernel⟩
theorem scPick : FnScope ["_law_box_here", "_law_some"] ["_law_box_here", "_law_some"] (defScope sPick) := ⟨rfl, rfl, rfl, by decide +kernel, rfl, by decide +kernel, by decide +kernel⟩
section
variable {P : Program} {w : World} {K : PySem.W.Frag} {mg : Str → Option Value} {base : Heap}
variable {fBox fTake fPick : Addr} {dBox dTake dPick : FuncData}
theorem atI_map {ns : List Int} {j : Nat} (h : j < ns.length) : atI (ns.map V.int) (j : Int) = some (V.int (ns.getD j 0)) := by
  refine atI_nat ?_
  rw [List.getElem?_map, List.getElem?_eq_getElem h, List.getD_eq_getElem?_getD, List.getElem?_eq_getElem h]
  rfl
theorem ok_box {ns : List Int} {f : Addr} {fd : FuncData} (G : Mg mg) (F : Fun K "_law_box" "_law_box" sBox f fd) : FnOk P w K mg base CX0 1 f fd ["_law_script", "_law_k"] (spBox K ns) := by
  refine F.ok scBox (fun vs H Q E h => ?_) (fun cdv A outer s H vs Q E hr h => ?_)
  · obtain ⟨a, k, rfl, _⟩ := h
    rfl
  · obtain ⟨a, k, rfl, hs, hn, hk, kk⟩ := h
    refine ⟨_, pss_cons (ps_set (i := 2) scBox.nd rfl (.inl rfl) (pe_op op_add (pe_op op_mul pe_int (pv 1)) pe_int))
      (pss_cons (ps_if (pt_cmpR op_lt (pv 1) (pe_callB call_len (by rfl) G.len boot_len (pa_cons (pv 0) pa_nil)) (nomark _))
        (pss_one (ps_set (i := 2) scBox.nd rfl (.inl rfl) (pe_callB call_abs (by rfl) G.abs boot_abs (pa_cons (pe_callTy (T := "int") call_int1 (by rfl) G.int (by decide +kernel) (pa_cons (pe_ix ix_list (pv 0) (pv 1) (fun _ _ => rfl)) pa_nil)) pa_nil))))
        (pss_one (ps_if (pt_cmpR op_gt (pe_callB call_len (by rfl) G.len boot_len (pa_cons (pv 0) pa_nil)) pe_int (nomark _))
          (pss_one (ps_set (i := 2) scBox.nd rfl (.inl rfl) (pe_op op_add (pv 2) (pe_op op_mul (pe_op op_mod (pe_callTy (T := "int") call_int1 (by rfl) G.int (by decide +kernel) (pa_cons
            (pe_callB call_abs (by rfl) G.abs boot_abs (pa_cons (pe_callTy (T := "int") call_int1 (by rfl) G.int (by decide +kernel) (pa_cons (pe_ix ix_list (pv 0)
              (pe_op op_mod (pe_callTy (T := "int") call_int1 (by rfl) G.int (by decide +kernel) (pa_cons (pv 1) pa_nil)) (pe_callB call_len (by rfl) G.len boot_len (pa_cons (pv 0) pa_nil))) (fun _ _ => rfl)) pa_nil)) pa_nil)) pa_nil)) pe_int) pe_int))))
          pss_nil)))
      (pss_cons (ps_set (i := 3) scBox.nd rfl (.inl rfl) (pe_ifExp (pt_cmpR op_ge (pv 2) (pe_op op_pow pe_int pe_int) (nomark _)) (pv 2) pe_int))
      (pss_one (ps_ret (pe_lst (pa_cons (pv 3) (pa_cons (pe_op op_add (pe_op op_mod (pe_callTy (T := "int") call_int1 (by rfl) G.int (by decide +kernel) (pa_cons
        (pe_op op_add (pe_op op_mul (pe_op op_mod (pe_callTy (T := "int") call_int1 (by rfl) G.int (by decide +kernel) (pa_cons (pv 2) pa_nil)) pe_int) pe_int) (pe_op op_mul pe_int (pv 1))) pa_nil)) pe_int) pe_int) pa_nil))))))), ?_⟩
    have c64 : ∀ j : Int, 0 ≤ j → j < 2 ^ 64 → ∀ i : Int, CMul i j := fun j a b i => .inr ⟨by omega, b⟩
    have d64 : ∀ j : Int, 0 ≤ j → j < 2 ^ 64 → ∀ i : Int, CMul j i := fun j a b i => .inl ⟨by omega, b⟩
    have ml : (ns.map V.int).length = ns.length := by simp
    refine q_asg (v := .int (11657 * (k : Int) + 4721)) (ev_op (ev_op ev_c (ev_var rfl) (rv_I (d64 _ (by decide) (by decide) _))) ev_c rv_I0) fun H1 e1 => ?_
    have hs1 := ex_l e1 hs
    refine q_ifSet (i := 2) (c0 := 11657 * (k : Int) + 4721) (fun c => 0 ≤ c) (et_test (ev_op (ev_var rfl) (ev_lenL (ev_var rfl) hs1) rv_I0)) (fun z => ?_) (fun _ => et_test (ev_op (ev_lenL (ev_var rfl) hs1) ev_c rv_I0)) (fun z y => ?_) ⟨by omega, rfl⟩ fun c H2 hc e2 => ?_
    · have hk2 : k < ns.length := by have := of_decide_eq_true z; omega
      refine ⟨_, ?_, ev_cb (ea_cons (ev_int1 (ev_op (ev_var rfl) (ev_var rfl) (rv_ixL hs1 (atI_map hk2)))) ea_nil) rc_abs⟩
      split <;> omega
    · have hn0 : 0 < ns.length := by have := of_decide_eq_true y; omega
      obtain ⟨j, hj, hjn⟩ := mod_nat (k : Int) (m := ns.length) hn0
      have jx : Ev (tOp (rI (fun _ j => 0 < j) fun i j => .int (i % j)) (tCB (fun xs H Q => (∃ i, xs = [V.int i] ∧ Q (.int i) H) ∨ ∃ k, xs = [.bl k] ∧ Q (.int (if k then 1 else 0)) H) (tCons (tVar 1) tNil)) (tCB (fun ys H Q => ∃ x n, ys = [x] ∧ LenV K x H n ∧ Q (.int n) H) (tCons (tVar 0) tNil))) (List.set (start ["_law_script", "_law_k", "_law_cell", "_law_great"] [V.ref a, V.int k]) 2 (some (V.int (11657 * (k : Int) + 4721)))) H1 (.int (j : Int)) :=
        ev_is (ev_op (ev_int1 (ev_var rfl)) (ev_lenL (ev_var rfl) hs1) (rv_I (by omega))) (by rw [ml, hj])
      obtain ⟨x, hx⟩ : ∃ x : Int, (if ns.getD j 0 < 0 then -ns.getD j 0 else ns.getD j 0) = x := ⟨_, rfl⟩
      have x0 := Int.emod_nonneg x (show (2147483563 : Int) ≠ 0 by decide)
      refine ⟨11657 * (k : Int) + 4721 + x % 2147483563 * 50951, by omega, ?_⟩
      refine ev_op (ev_var rfl) (ev_op (ev_op (ev_int1 (ev_is (ev_cb (ea_cons (ev_int1 (ev_op (ev_var rfl) jx (rv_ixL hs1 (atI_map hjn)))) ea_nil) rc_abs) (by rw [hx]))) ev_c (rv_I (by decide))) ev_c (rv_I (c64 _ (by decide) (by decide) _))) rv_I0
    · have pw : CPow 10 18 := ⟨by decide, by decide, by decide⟩
      obtain ⟨g, hg, hg0⟩ : ∃ g : Int, (if 10 ^ 18 ≤ c then c else 0) = g ∧ 0 ≤ g := ⟨_, rfl, by split <;> omega⟩
      refine q_asg (v := .int g) (ev_if (et_test (ev_op (ev_var rfl) (ev_op ev_c ev_c (rv_I pw)) rv_I0)) (fun z => ev_is (ev_var rfl) ?_) (fun z => ev_is ev_c ?_)) fun H3 e3 => ?_
      · rw [← hg, if_pos (show (10 : Int) ^ 18 ≤ c from of_decide_eq_true z)]
      · rw [← hg, if_neg (show ¬ (10 : Int) ^ 18 ≤ c from of_decide_eq_false z)]
      · have y0 := Int.emod_nonneg (c % 2147483563 * 40014 + 4721 * (k : Int)) (show (2147483563 : Int) ≠ 0 by decide)
        refine s_retL (xs := [.int g, .int ((c % 2147483563 * 40014 + 4721 * (k : Int)) % 2147483563 + 1)]) (el_lst (ea_cons (ev_var rfl) (ea_cons (ev_op (ev_op (ev_int1 (ev_op (ev_op (ev_op (ev_int1 (ev_var rfl)) ev_c (rv_I (by decide))) ev_c (rv_I (c64 _ (by decide) (by decide) _)))
          (ev_op ev_c (ev_var rfl) (rv_I (d64 _ (by decide) (by decide) _))) rv_I0)) ev_c (rv_I (by decide))) ev_c rv_I0) ea_nil)) (by show 2 ≤ 100000; decide)) fun p H4 hp e4 h4 => ?_
        exact kk p H4 (fresh_back ((e1.trans e2).trans e3) hp) (((e1.trans e2).trans e3).trans e4) ⟨g, _, h4, hg0, by omega⟩
theorem ok_take {f : Addr} {fd : FuncData} (G : Mg mg) (F : Fun K "_law_take" "_law_take" sTake f fd) : FnOk P w K mg base CX0 1 f fd ["_law_box_here", "_law_many"] spTake := by
  refine F.ok scTake (fun vs H Q E h => ?_) (fun cdv A outer s H vs Q E hr h => ?_)
  · obtain ⟨p, m, rfl, _⟩ := h
    rfl
  · obtain ⟨p, m, rfl, h1, h9, hb, kk⟩ := h
    refine ⟨_, pss_cons (ps_if (pt_cmpR op_gt (pe_ix ix_list (pv 0) pe_int (fun _ _ => rfl)) pe_int (nomark _))
        (pss_cons (ps_set (i := 2) scTake.nd rfl (.inl rfl) (pe_op op_mod (pe_callTy (T := "int") call_int1 (by rfl) G.int (by decide +kernel) (pa_cons (pe_ix ix_list (pv 0) pe_int (fun _ _ => rfl)) pa_nil)) (pv 1)))
        (pss_cons (ps_asg (pe_op op_fdivW (pe_ix ix_list (pv 0) pe_int (fun _ _ => rfl)) (pv 1)) (pg_sub (pv 0) pe_int set_list (fun _ => rfl)))
        (pss_one (ps_ret (pv 2)))))
        pss_nil)
      (pss_cons (ps_set (i := 3) scTake.nd rfl (.inl rfl) (pe_op op_mod (pe_callTy (T := "int") call_int1 (by rfl) G.int (by decide +kernel) (pa_cons (pe_op op_add (pe_op op_mul (pe_ix ix_list (pv 0) pe_int (fun _ _ => rfl)) pe_int) pe_int) pa_nil)) pe_int))
      (pss_cons (ps_asg (pe_op op_add (pe_op op_mod (pe_callTy (T := "int") call_int1 (by rfl) G.int (by decide +kernel) (pa_cons (pe_op op_add (pe_op op_mul (pv 3) pe_int) pe_int) pa_nil)) pe_int) pe_int) (pg_sub (pv 0) pe_int set_list (fun _ => rfl)))
      (pss_one (ps_ret (pe_op op_mod (pe_callTy (T := "int") call_int1 (by rfl) G.int (by decide +kernel) (pa_cons (pe_op op_fdiv (pe_op op_add (pe_op op_mul (pv 3) pe_int) (pe_ix ix_list (pv 0) pe_int (fun _ _ => rfl))) pe_int) pa_nil)) (pv 1)))))), ?_⟩
    obtain ⟨g, s', hH, hg, hs⟩ := hb
    have m0 : (0 : Int) < (m : Int) := by omega
    refine q_when (b := decide (0 < g)) (et_test (ev_op (ev_op (ev_var rfl) ev_c (rv_ixL (SqL.of hH) rfl)) ev_c rv_I0)) (fun hgt H1 e1 => ?_) (fun _ H1 e1 => ?_)
    · obtain ⟨d, hd, hdm⟩ := mod_nat g h1
      refine q_asg (v := .int (d : Int)) (ev_is (ev_op (ev_int1 (ev_op (ev_var rfl) ev_c (rv_ixL (SqL.of (e1 _ _ hH)) rfl))) (ev_var rfl) (rv_I m0)) (by rw [hd])) fun H2 e2 => ?_
      have h2 := (e1.trans e2) _ _ hH
      refine q_setL (j := 0) (v := .int (g / (m : Int))) h2 (ev_op (ev_op (ev_var rfl) ev_c (rv_ixL (SqL.of h2) rfl)) (ev_var rfl) (rv_I ⟨m0, ?_⟩)) (ev_var rfl) ev_c (by simp) fun H3 e3 => ?_
      · exact lt_log h9
      · exact s_ret (ev_var rfl) fun H4 e4 => kk d H4 hdm (ExB.of ((e1.trans e2).trans e3) e4 (Int.ediv_nonneg hg (by omega)) hs)
    · have h1' := e1 _ _ hH
      have c64 : ∀ j : Int, 0 ≤ j → j < 2 ^ 64 → ∀ i : Int, CMul i j := fun j a b i => .inr ⟨by omega, b⟩
      obtain ⟨r, hr⟩ : ∃ r : Int, (s' * 39373 + 20) % 2147483647 = r := ⟨_, rfl⟩
      refine q_asg (v := .int r) (ev_is (ev_op (ev_int1 (ev_op (ev_op (ev_op (ev_var rfl) ev_c (rv_ixL (SqL.of h1') rfl)) ev_c (rv_I (c64 _ (by decide) (by decide) _))) ev_c rv_I0)) ev_c (rv_I (by decide))) (by rw [hr])) fun H2 e2 => ?_
      have h2 := e2 _ _ h1'
      obtain ⟨t, ht⟩ : ∃ t : Int, (r * 40692 + 9) % 2147483399 + 1 = t := ⟨_, rfl⟩
      have t0 : 0 ≤ t := by
        have := Int.emod_nonneg (r * 40692 + 9) (show (2147483399 : Int) ≠ 0 by decide)
        omega
      refine q_setL (j := 1) (v := .int t) h2 (ev_is (ev_op (ev_op (ev_int1 (ev_op (ev_op (ev_var rfl) ev_c (rv_I (c64 _ (by decide) (by decide) _))) ev_c rv_I0)) ev_c (rv_I (by decide))) ev_c rv_I0) (by rw [ht])) (ev_var rfl) ev_c (by simp) fun H3 e3 => ?_
      have h4 : (upd H3 p (.lst ([V.int g, .int s'].set 1 (.int t)))) p = some (.lst [.int g, .int t]) := upd_same
      obtain ⟨d, hd, hdm⟩ := mod_nat ((r * 2147483629 + t) / 8209) h1
      refine s_ret (v := .int (d : Int)) (ev_is (ev_op (ev_int1 (ev_op (ev_op (ev_op (ev_var rfl) ev_c (rv_I (c64 _ (by decide) (by decide) _))) (ev_op (ev_var rfl) ev_c (rv_ixL (SqL.of h4) rfl)) rv_I0) ev_c (rv_I ?_))) (ev_var rfl) (rv_I m0)) (by rw [hd])) fun H4 e4 => kk d H4 hdm (ExB.of ((e1.trans e2).trans e3) e4 hg t0)
      exact ⟨by decide, by decide⟩
theorem ok_pick {f : Addr} {fd : FuncData} (G : Mg mg) (F : Fun K "_law_pick" "_law_pick" sPick f fd) (F1 : Fns K mg "_law_take" ["_law_box_here", "_law_many"] sTake fTake dTake) : FnOk P w K mg base CX0 2 f fd ["_law_box_here", "_law_some"] spPick := by
  have G1 : FnOk P w K mg base CX0 1 fTake dTake ["_law_box_here", "_law_many"] spTake := ok_take G F1.fn
  refine F.ok scPick (fun vs H Q E h => ?_) (fun cdv A outer s H vs Q E hr h => ?_)
  · obtain ⟨p, q, ys, rfl, _⟩ := h
    rfl
  · obtain ⟨p, q, ys, rfl, hb, hq, hne, hl, hz, kk⟩ := h
    refine ⟨_, pss_one (ps_ret (pe_ix ix_list (pv 1) (pe_call G1 hr (by rfl) F1.mg F1.fn.kp F1.bd .nil pass0 (pa_cons (pv 0) (pa_cons (pe_callB call_len (by rfl) G.len boot_len (pa_cons (pv 1) pa_nil)) pa_nil))) (fun _ _ => rfl))), ?_⟩
    refine ⟨.ref q, rfl, .ref p, rfl, .ref q, rfl, .ref q, ys.length, rfl, .inl ⟨ys, SqL.of hq, rfl⟩, p, ys.length, rfl, hl, by omega, hb, fun d H' hd e => ?_⟩
    refine ⟨q, ys, d, ys[d], rfl, rfl, SqL.of (e.2 _ _ hne hq), atI_nat (List.getElem?_eq_getElem hd), kk _ H' (List.getElem_mem hd) e⟩
end
end K04
set_option Elab.async false
set_option linter.all false
set_option maxRecDepth 100000
set_option maxHeartbeats 4000000
namespace Pu
open PySem PySem.Spec PyProof.Rows L2 GxR Evl
theorem ExB.pre {p : Addr} {H H1 H2 : Hp} (e : Ex H H1) (b : ExB p H1 H2) : ExB p H H2 := ⟨b.1, fun a o n h => b.2 a o n (e _ _ h)⟩
theorem ExB.post {p : Addr} {H H1 H2 : Hp} (b : ExB p H H1) (e : Ex H1 H2) : ExB p H H2 := ⟨b.1.ex e, fun a o n h => e _ _ (b.2 a o n h)⟩
theorem ExB.trans {p : Addr} {H H1 H2 : Hp} (b : ExB p H H1) (c : ExB p H1 H2) : ExB p H H2 := ⟨c.1, fun a o n h => c.2 a o n (b.2 a o n h)⟩
theorem ExB.tup {p : Addr} {H H1 : Hp} (hb : BoxAt H p) (b : ExB p H H1) {a : Addr} {xs : List V} (h : H a = some (.tup xs)) : H1 a = some (.tup xs) := b.2 a _ (fun z => by
  obtain ⟨g, s, h1, _⟩ := hb
  rw [z, h1] at h
  cases h) h
theorem BoxAt.new {p r : Addr} {H : Hp} (hb : BoxAt H p) (hr : H r = none) : r ≠ p := fun z => by
  obtain ⟨g, s, h1, _⟩ := hb
  rw [z, h1] at hr
  cases hr
theorem fresh_of {p : Addr} {H H1 : Hp} (b : ExB p H H1) {a : Addr} (h : H1 a = none) : H a = none := by
  cases e : H a with
  | none => rfl
  | some o =>
    have n : a ≠ p := fun z => by
      obtain ⟨g, s, h1, _⟩ := b.1
      rw [z, h1] at h
      cases h
    rw [b.2 a o n e] at h
    cases h
end Pu
namespace K04
open PySem PySem.Spec PyProof.Rows L2 GxR Pu Evl
theorem scLawChain : FnScope ["_law_box_here", "_law_gap", "_law_pause", "_law_begin", "_law_windows", "_law_turn", "_law_low"] ["_law_box_here"] (defScope sLawChain) := ⟨rfl, rfl, rfl, by decide +kernel, rfl, by decide +kernel, by decide +kernel⟩
/-- a drawn chain is a small one -/
structure Ch.Small (c : Ch) : Prop where
  g1 : 1 ≤ c.g
  g3 : c.g ≤ 3
  gp : c.g ≤ c.p
  p5 : c.p ≤ 5
  b5 : ∀ n, c.b = some n → n ≤ 5
  wl : c.ws.length ≤ 4
  ww : ∀ w ∈ c.ws, w.1 ≤ 11 ∧ ∀ h, w.2 = some h → h ≤ 19
def spLC : Sp := fun vs H Q _ => ∃ p : Addr, vs = [.ref p] ∧ BoxAt H p ∧ ∀ c v H', Ch.Small c → ExB p H H' → ChT H' c v → Q v H'
section
variable {P : Program} {w : World} {K : PySem.W.Frag} {mg : Str → Option Value} {base : Heap} {T : Addr}
variable {fTake fPick : Addr} {dTake dPick : FuncData}
theorem WsT.exB {p : Addr} {H H' : Hp} {ws : List (Nat × Option Nat)} {xs : List V} (hb : BoxAt H p) (h : WsT H ws xs) (e : ExB p H H') : WsT H' ws xs := Paired.mapP h fun _ _ ⟨b, h1, h2⟩ => ⟨b, h1, e.tup hb h2⟩
theorem ok_law_chain {f : Addr} {fd : FuncData} (G : Mg mg) (F : Fun K "_law_chain" "_law_chain" sLawChain f fd) (F1 : Fns K mg "_law_take" ["_law_box_here", "_law_many"] sTake fTake dTake) (F2 : Fns K mg "_law_pick" ["_law_box_here", "_law_some"] sPick fPick dPick) : FnOk P w K mg base CX0 3 f fd ["_law_box_here"] spLC := by
  have G1 : FnOk P w K mg base CX0 1 fTake dTake ["_law_box_here", "_law_many"] spTake := ok_take G F1.fn
  have G2 : FnOk P w K mg base CX0 2 fPick dPick ["_law_box_here", "_law_some"] spPick := ok_pick G F2.fn F1
  refine F.ok scLawChain (fun vs H Q E h => ?_) (fun cdv A outer s H vs Q E hr h => ?_)
  · obtain ⟨p, rfl, _⟩ := h
    rfl
  · obtain ⟨p, rfl, hb, kk⟩ := h
    refine ⟨_, pss_cons (ps_set (i := 1) scLawChain.nd rfl (.inl rfl) (pe_op op_add pe_int (pe_call G1 (hr.mono (by decide)) (by rfl) F1.mg F1.fn.kp F1.bd .nil pass0 (pa_cons (pv 0) (pa_cons pe_int pa_nil)))))
      (pss_cons (ps_set (i := 2) scLawChain.nd rfl (.inl rfl) (pe_op op_add (pv 1) (pe_call G1 (hr.mono (by decide)) (by rfl) F1.mg F1.fn.kp F1.bd .nil pass0 (pa_cons (pv 0) (pa_cons pe_int pa_nil)))))
      (pss_cons (ps_par (i := 3) (j := 4) rfl scLawChain.nd rfl rfl (by decide) rfl rfl (pa_cons (pe_call G2 hr (by rfl) F2.mg F2.fn.kp F2.bd .nil pass0 (pa_cons (pv 0) (pa_cons (pe_lst (pa_cons pe_non (pa_cons (pe_call G1 (hr.mono (by decide)) (by rfl) F1.mg F1.fn.kp F1.bd .nil pass0 (pa_cons (pv 0) (pa_cons pe_int pa_nil))) pa_nil))) pa_nil))) (pa_cons (pe_lst pa_nil) pa_nil)) (by rfl))
      (pss_cons (ps_for PassesOwn.never rfl (pi_range1 (by rfl) G.range (pa_cons (pe_call G1 (hr.mono (by decide)) (by rfl) F1.mg F1.fn.kp F1.bd .nil pass0 (pa_cons (pv 0) (pa_cons pe_int pa_nil))) pa_nil)) (pg_name (i := 5) scLawChain.nd rfl (.inl rfl))
        (pss_cons (ps_set (i := 6) scLawChain.nd rfl (.inl rfl) (pe_call G2 hr (by rfl) F2.mg F2.fn.kp F2.bd .nil pass0 (pa_cons (pv 0) (pa_cons (pe_lst (pa_cons pe_int (pa_cons pe_int (pa_cons (pe_call G1 (hr.mono (by decide)) (by rfl) F1.mg F1.fn.kp F1.bd .nil pass0 (pa_cons (pv 0) (pa_cons pe_int pa_nil))) pa_nil)))) pa_nil))))
        (pss_one (ps_expr (pe_bm PySem.F.plainAttrs_list PySem.F.slot_list_append PySem.F.type_list_append mt_append (pv 4) (pa_cons (pe_tup (pa_cons (pv 6) (pa_cons (pe_call G2 hr (by rfl) F2.mg F2.fn.kp F2.bd .nil pass0 (pa_cons (pv 0) (pa_cons (pe_lst (pa_cons pe_non (pa_cons pe_non
          (pa_cons (pe_op op_add (pv 6) (pe_call G1 (hr.mono (by decide)) (by rfl) F1.mg F1.fn.kp F1.bd .nil pass0 (pa_cons (pv 0) (pa_cons pe_int pa_nil)))) (pa_cons (pe_call G1 (hr.mono (by decide)) (by rfl) F1.mg F1.fn.kp F1.bd .nil pass0 (pa_cons (pv 0) (pa_cons pe_int pa_nil))) pa_nil))))) pa_nil))) pa_nil))) pa_nil))))))
      (pss_one (ps_ret (pe_tup (pa_cons (pv 1) (pa_cons (pv 2) (pa_cons (pv 3) (pa_cons (pe_callTy call_tuple_of (by rfl) G.tuple (by decide +kernel) (pa_cons (pv 4) pa_nil)) pa_nil)))))))))), ?_⟩
    refine ⟨.ref p, rfl, p, 3, rfl, by decide, by decide, hb, fun d1 H1 hd1 b1 => ⟨1, d1, rfl, rfl, ?_⟩⟩
    show tSeq _ _ _ [some (.ref p), some (.int ((1 + d1 : Nat) : Int)), none, none, none, none, none] H1
    generalize hg : 1 + d1 = g
    refine ⟨.int (g : Nat), rfl, .ref p, rfl, p, 3, rfl, by decide, by decide, b1.1, fun d2 H2 hd2 b2 => ⟨g, d2, rfl, rfl, ?_⟩⟩
    show tSeq _ _ _ [some (.ref p), some (.int (g : Nat)), some (.int ((g + d2 : Nat) : Int)), none, none, none, none] H2
    generalize hq : g + d2 = z
    have b12 := b1.trans b2
    refine ⟨.ref p, rfl, .ref p, rfl, p, 6, rfl, by decide, by decide, b12.1, fun d3 H3 hd3 b3 => ⟨by show 2 ≤ sizeLine; decide, fun r hr => ?_⟩⟩
    refine ⟨p, r, _, rfl, b3.1.ex (Ex.new hr), upd_same, b3.1.new hr, by show 1 ≤ 2; decide, by show 2 ≤ 1000; decide, fun v H4 hv b4 => ?_⟩
    obtain ⟨b, rfl, hb5⟩ : ∃ b : Option Nat, v = nonV b ∧ ∀ n, b = some n → n ≤ 5 := by
      rcases List.mem_cons.mp hv with e | hv
      · exact ⟨none, e, fun n e => nomatch e⟩
      · rcases List.mem_cons.mp hv with e | hv
        · exact ⟨some d3, e, fun n e => by cases e; omega⟩
        · cases hv
    have b14 := b12.trans (b3.trans (b4.pre (Ex.new hr)))
    refine ⟨by show 0 ≤ sizeLine; decide, fun D hD => ⟨_, _, rfl, ?_⟩⟩
    have hDp : D ≠ p := b14.1.new hD
    have b15 := b14.post (Ex.new hD (o := .lst []))
    show tSeq _ _ _ [some (.ref p), some (.int (g : Nat)), some (.int (z : Nat)), some (nonV b), some (.ref D), none, none] (upd H4 D (.lst []))
    refine ⟨.ref p, rfl, p, 5, rfl, by decide, by decide, b15.1, fun n H5 hn b5 => ⟨(n : Int), rfl, by omega, by omega, for_range (lo := 0) (n := n) (fun i σ' H' => ∃ (y5 y6 : Option V) (ws : List (Nat × Option Nat)) (xs : List V), σ' = [some (.ref p), some (.int (g : Nat)), some (.int (z : Nat)), some (nonV b), some (.ref D), y5, y6] ∧
      ExB p H H' ∧ H' D = some (.lst xs) ∧ WsT H' ws xs ∧ ws.length = i ∧ ∀ w ∈ ws, w.1 ≤ 11 ∧ ∀ h, w.2 = some h → h ≤ 19) ⟨none, none, [], [], rfl, b15.trans b5, b5.2 D _ hDp upd_same, .nil, rfl, fun w hw => by cases hw⟩ (fun i σ' H' hi p1 => ?_) fun σ' H' p1 => ?_⟩⟩
    · obtain ⟨y5, y6, ws, xs, rfl, bx, hX, hw, hl, hs⟩ := p1
      have hxl : ws.length = xs.length := Paired.length hw
      refine ⟨.ref p, rfl, .ref p, rfl, p, 12, rfl, by decide, by decide, bx.1, fun d6 H6 hd6 b6 => ⟨by show 3 ≤ sizeLine; decide, fun r6 hr6 => ?_⟩⟩
      refine ⟨p, r6, _, rfl, b6.1.ex (Ex.new hr6), upd_same, b6.1.new hr6, by show 1 ≤ 3; decide, by show 3 ≤ 1000; decide, fun v7 H7 hv7 b7 => ?_⟩
      obtain ⟨lo, rfl, hlo⟩ : ∃ lo : Nat, v7 = .int lo ∧ lo ≤ 11 := by
        rcases List.mem_cons.mp hv7 with e | hv
        · exact ⟨0, e, by decide⟩
        · rcases List.mem_cons.mp hv with e | hv
          · exact ⟨0, e, by decide⟩
          · rcases List.mem_cons.mp hv with e | hv
            · exact ⟨d6, e, by omega⟩
            · cases hv
      have b67 := b6.trans (b7.pre (Ex.new hr6))
      have hX7 := b67.2 D _ hDp hX
      have hw7 := hw.exB bx.1 b67
      refine ⟨.ref D, rfl, .inl ⟨rfl, xs, SqL.of hX7⟩, ?_⟩
      refine ⟨.int lo, rfl, .ref p, rfl, .int lo, rfl, .ref p, rfl, p, 9, rfl, by decide, by decide, b67.1, fun d8 H8 hd8 b8 => ⟨lo, d8, rfl, rfl, .ref p, rfl, p, 16, rfl, by decide, by decide, b8.1, fun d9 H9 hd9 b9 => ⟨by show 4 ≤ sizeLine; decide, fun r9 hr9 => ?_⟩⟩⟩
      refine ⟨p, r9, _, rfl, b9.1.ex (Ex.new hr9), upd_same, b9.1.new hr9, by show 1 ≤ 4; decide, by show 4 ≤ 1000; decide, fun v10 H10 hv10 b10 => ?_⟩
      obtain ⟨h, rfl, hh⟩ : ∃ h : Option Nat, v10 = nonV h ∧ ∀ k, h = some k → k ≤ 19 := by
        rcases List.mem_cons.mp hv10 with e | hv
        · exact ⟨none, e, fun n e => nomatch e⟩
        · rcases List.mem_cons.mp hv with e | hv
          · exact ⟨none, e, fun n e => nomatch e⟩
          · rcases List.mem_cons.mp hv with e | hv
            · exact ⟨some (lo + d8), by rw [e]; rfl, fun n e => by cases e; omega⟩
            · rcases List.mem_cons.mp hv with e | hv
              · exact ⟨some d9, e, fun n e => by cases e; omega⟩
              · cases hv
      have b8x := b8.trans (b9.trans (b10.pre (Ex.new hr9)))
      have hX10 := b8x.2 D _ hDp hX7
      have hw10 := hw7.exB b67.1 b8x
      refine ⟨by show 2 ≤ sizeLine; decide, fun q hq => ?_⟩
      have eq := Ex.new (H := H10) hq (o := .tup [V.int lo, nonV h])
      have hXq := eq _ _ hX10
      have hqD : q ≠ D := fun e => by rw [e, hX10] at hq; cases hq
      refine ⟨D, xs, .ref q, rfl, rfl, hXq, Nat.lt_of_le_of_lt (show xs.length ≤ 10 by omega) (by decide), ?_⟩
      have bq := (bx.trans (b67.trans b8x)).post eq
      refine ⟨_, _, ws ++ [(lo, h)], xs ++ [.ref q], rfl, ⟨?_, fun a o n e => ?_⟩, upd_same, ?_, by rw [List.length_append, hl]; rfl, fun w hw => ?_⟩
      · obtain ⟨g', s', h1, h2⟩ := bq.1
        exact ⟨g', s', by rw [upd_ne (Ne.symm hDp)]; exact h1, h2⟩
      · have nD : a ≠ D := fun z => by
          rw [z] at e
          have := fresh_of b14 hD
          rw [this] at e
          cases e
        rw [upd_ne nD]
        exact bq.2 a o n e
      · have up : ∀ {b : Addr} {ys : List V}, upd H10 q (.tup [V.int lo, nonV h]) b = some (.tup ys) → upd (upd H10 q (.tup [V.int lo, nonV h])) D (.lst (xs ++ [.ref q])) b = some (.tup ys) := fun {b ys} e => by
          rw [upd_ne (ne_of e hXq (by intro z; cases z))]
          exact e
        exact Paired.app (Paired.mapP (hw10.ex eq) fun _ _ ⟨b, h1, h2⟩ => ⟨b, h1, up h2⟩) (.cons ⟨q, rfl, up upd_same⟩ .nil)
      · rcases List.mem_append.mp hw with e | e
        · exact hs w e
        · rw [List.mem_singleton.mp e]
          exact ⟨hlo, hh⟩
    · obtain ⟨y5, y6, ws, xs, rfl, bx, hX, hw, hl, hs⟩ := p1
      refine ⟨_, rfl, _, rfl, _, rfl, .ref D, rfl, D, xs, rfl, .inl ⟨SqL.of hX, fun t hT => ⟨by show 4 ≤ sizeLine; decide, fun q hq4 => ?_⟩⟩⟩
      have e6 := Ex.new (H := H') (o := .tup xs) hT
      have e7 := Ex.new (H := upd H' t (.tup xs)) (o := .tup [V.int g, V.int z, nonV b, .ref t]) hq4
      exact kk ⟨g, z, b, ws⟩ _ _ ⟨by show 1 ≤ g; omega, by show g ≤ 3; omega, by show g ≤ z; omega, by show z ≤ 5; omega, hb5, by show ws.length ≤ 4; omega, hs⟩ (bx.post (e6.trans e7)) ⟨q, t, xs, rfl, upd_same, e7 _ _ upd_same, hw.ex (e6.trans e7)⟩
end
end K04
set_option Elab.async false
set_option linter.all false
set_option maxRecDepth 100000
/-! all stamps of a chain, written out line by line -/
namespace Chn
def lastOf (b : Option Int) (line : List Int) : Option Int := match line.getLast? with
  | none => b
  | some x => some x
def okHi (w : Win) (x : Int) : Bool := match w.2 with
  | none => true
  | some h => decide (x ≤ h)
/-- what one line becomes by a row more -/
def stepL (g p : Int) (b : Option Int) (w : Win) (line : List Int) : List (List Int) :=
  (((List.range ((first g p (lastOf b line)).2 + 1 - max (first g p (lastOf b line)).1 w.1).toNat).map fun i => max (first g p (lastOf b line)).1 w.1 + (i : Nat)).filter (okHi w)).map fun x => line ++ [x]
def allL (g p : Int) (b : Option Int) : List Win → List (List Int) → List (List Int)
  | [], F => F
  | w :: ws, F => allL g p b ws (F.flatMap (stepL g p b w))
theorem okHi_iff {w : Win} {x : Int} : okHi w x = true ↔ ∀ h, w.2 = some h → x ≤ h := by
  obtain ⟨lo, hi⟩ := w
  unfold okHi
  cases hi with
  | none => exact ⟨(fun _ h e => nomatch e), fun _ => rfl⟩
  | some k =>
    show decide (x ≤ k) = true ↔ ∀ h, some k = some h → x ≤ h
    exact ⟨fun z h e => by cases e; exact of_decide_eq_true z, fun z => decide_eq_true (z k rfl)⟩
theorem mem_step {g p : Int} {b : Option Int} {w : Win} {line y : List Int} : y ∈ stepL g p b w line ↔ ∃ x, y = line ++ [x] ∧ ((first g p (lastOf b line)).1 ≤ x ∧ x ≤ (first g p (lastOf b line)).2) ∧ (w.1 ≤ x ∧ ∀ h, w.2 = some h → x ≤ h) := by
  unfold stepL
  generalize first g p (lastOf b line) = s
  rw [List.mem_map]
  constructor
  · rintro ⟨x, hx, rfl⟩
    rw [List.mem_filter, List.mem_map] at hx
    obtain ⟨⟨i, hi, rfl⟩, ho⟩ := hx
    have hi2 := List.mem_range.mp hi
    exact ⟨_, rfl, ⟨by omega, by omega⟩, by omega, okHi_iff.mp ho⟩
  · rintro ⟨x, rfl, ⟨h1, h2⟩, h3, h4⟩
    refine ⟨x, ?_, rfl⟩
    rw [List.mem_filter, List.mem_map]
    exact ⟨⟨(x - max s.1 w.1).toNat, List.mem_range.mpr (by omega), by omega⟩, okHi_iff.mpr h4⟩
theorem lastOf_snoc {b : Option Int} {line : List Int} {x : Int} : lastOf b (line ++ [x]) = some x := by
  unfold lastOf
  rw [List.getLast?_append]
  rfl
theorem mem_all {g p : Int} {b : Option Int} : ∀ {ws : List Win} {F : List (List Int)} {xs : List Int}, xs ∈ allL g p b ws F ↔ ∃ line ∈ F, ∃ ys, xs = line ++ ys ∧ Sol g p (first g p (lastOf b line)) ws ys
  | [], F, xs => by
    constructor
    · intro h
      exact ⟨xs, h, [], by simp, trivial⟩
    · rintro ⟨line, hl, ys, rfl, hs⟩
      cases ys with
      | nil => rw [List.append_nil]; exact hl
      | cons y ys => exact hs.elim
  | w :: ws, F, xs => by
    show xs ∈ allL g p b ws (F.flatMap (stepL g p b w)) ↔ _
    rw [mem_all]
    constructor
    · rintro ⟨l2, h2, ys, rfl, hs⟩
      obtain ⟨line, hl, hy⟩ := List.mem_flatMap.mp h2
      obtain ⟨x, rfl, h3, h4⟩ := mem_step.mp hy
      rw [lastOf_snoc] at hs
      exact ⟨line, hl, x :: ys, by simp, h3, h4, hs⟩
    · rintro ⟨line, hl, ys, rfl, hs⟩
      cases ys with
      | nil => exact hs.elim
      | cons x ys =>
        obtain ⟨h3, h4, h5⟩ := hs
        refine ⟨line ++ [x], List.mem_flatMap.mpr ⟨line, hl, mem_step.mpr ⟨x, rfl, h3, h4⟩⟩, ys, by simp, ?_⟩
        rw [lastOf_snoc]
        exact h5
/-- from nothing: just the stamps of the chain -/
theorem mem_lines {g p : Int} {b : Option Int} {ws : List Win} {xs : List Int} : xs ∈ allL g p b ws [[]] ↔ Sol g p (first g p b) ws xs := by
  rw [mem_all]
  constructor
  · rintro ⟨line, hl, ys, rfl, hs⟩
    rw [List.mem_singleton.mp hl] at hs ⊢
    exact hs
  · intro h
    exact ⟨[], List.mem_singleton.mpr rfl, xs, rfl, h⟩
theorem step_len {g p : Int} {b : Option Int} {w : Win} {line : List Int} (hw : (first g p (lastOf b line)).2 - (first g p (lastOf b line)).1 ≤ 5) : (stepL g p b w line).length ≤ 6 := by
  unfold stepL
  generalize first g p (lastOf b line) = s at hw ⊢
  rw [List.length_map]
  refine Nat.le_trans (List.length_filter_le _ _) ?_
  rw [List.length_map, List.length_range]
  omega
theorem flat_len {α β : Type} {f : α → List β} {n : Nat} : ∀ {F : List α}, (∀ x ∈ F, (f x).length ≤ n) → (F.flatMap f).length ≤ n * F.length
  | [], _ => Nat.zero_le _
  | x :: F, h => by
    rw [List.flatMap_cons, List.length_append, List.length_cons, Nat.mul_add, Nat.mul_one]
    have a := h x (List.mem_cons_self ..)
    have b := flat_len (F := F) fun y hy => h y (List.mem_cons_of_mem _ hy)
    omega
theorem first_wide {g p : Int} (h0 : 0 ≤ g) (hp : p ≤ 5) (b : Option Int) : (first g p b).2 - (first g p b).1 ≤ 5 := by
  cases b with
  | none => show p - 0 ≤ 5; omega
  | some x => show (x + p) - (x + g) ≤ 5; omega
end Chn
set_option Elab.async false
set_option linter.all false
set_option maxRecDepth 100000
set_option maxHeartbeats 4000000
namespace K04
open PySem PySem.Spec PyProof.Rows L2 GxR Pu Evl
abbrev allN : List Str := ["_law_chain_here", "_law_gap", "_law_pause", "_law_begin", "_law_windows", "_law_found", "_law_low", "_law_high", "_law_longer", "_law_line", "_law_ahead", "_law_first", "_law_last", "_law_stamp"]
theorem scLawAll : FnScope allN ["_law_chain_here"] (defScope sLawAll) := ⟨rfl, rfl, rfl, by decide +kernel, rfl, by decide +kernel, by decide +kernel⟩
/-- lines of stamps, each a tuple -/
def LnT (H : Hp) (F : List (List Int)) (ys : List V) : Prop := Paired (fun (l : List Int) (v : V) => ∃ q, v = .ref q ∧ H q = some (.tup (l.map V.int))) F ys
theorem LnT.ex {H H' : Hp} {F : List (List Int)} {ys : List V} (h : LnT H F ys) (e : Ex H H') : LnT H' F ys := Paired.mapP h fun _ _ ⟨b, h1, h2⟩ => ⟨b, h1, e _ _ h2⟩
theorem LnT.upd {H : Hp} {F : List (List Int)} {xs ys : List V} {D : Addr} {o : HO} (h : LnT H F xs) (hD : H D = some (.lst ys)) : LnT (upd H D o) F xs := Paired.mapP h fun p v ⟨b, h1, h2⟩ =>
  ⟨b, h1, by rw [upd_ne (ne_of h2 hD (by intro z; cases z))]; exact h2⟩
theorem LnT.snoc {H : Hp} {F : List (List Int)} {ys : List V} {l : List Int} {q : Addr} (h : LnT H F ys) (e : H q = some (.tup (l.map V.int))) : LnT H (F ++ [l]) (ys ++ [.ref q]) := Paired.app h (.cons ⟨q, rfl, e⟩ .nil)
def Ch.begI (c : Ch) : Option Int := c.b.map fun n => (n : Int)
def Ch.lines (c : Ch) : List (List Int) := Chn.allL c.g c.p c.begI (c.ws.map winI) [[]]
def spAll : Sp := fun vs H Q _ => ∃ (c : Ch) (v : V), vs = [v] ∧ c.Small ∧ ChT H c v ∧ ∀ p ys H', H p = none → Ex H H' → H' p = some (.lst ys) → LnT H' c.lines ys → c.lines.length ≤ 1296 → Q (.ref p) H'
def dInts (l : List Int) : PyData := .tuple (l.map PyData.int)
theorem dpInts {K : PySem.W.Frag} {H : Hp} {q : Addr} {l : List Int} (h : H q = some (.tup (l.map V.int))) : Dp K H (.ref q) (dInts l) := by
  refine .tup (SqT.of h) ?_
  clear h
  induction l with
  | nil => exact .nil
  | cons x l ih => exact .cons (.int _) ih
theorem ints_shaped (l : List Int) : SeqAt.shaped (dInts l) = true := by
  have h1 : ∀ l : List Int, PyData.canLayAll0 (l.map PyData.int) = true := fun l => by
    induction l with
    | nil => rfl
    | cons x l ih =>
      show (PyData.canLay0 (.int x) && PyData.canLayAll0 (l.map PyData.int)) = true
      rw [ih]
      rfl
  have h2 : ∀ l : List Int, PyData.depthAll (l.map PyData.int) = 0 := fun l => by
    induction l with
    | nil => rfl
    | cons x l ih =>
      show max 0 (PyData.depthAll (l.map PyData.int)) = 0
      rw [ih]
      rfl
  unfold SeqAt.shaped
  have h3 : PyData.canLay0 (dInts l) = true := h1 l
  have h4 : PyData.depth (dInts l) ≤ 64 := by
    show PyData.depthAll (l.map PyData.int) + 1 ≤ 64
    rw [h2]
    decide
  rw [h3, decide_eq_true h4]
  rfl
theorem ints_nil (l : List Int) : (!PyData.eqv (dInts l) (.tuple [])) = !l.isEmpty := by cases l <;> rfl
theorem last_at {l : List Int} {x : Int} (h : l.getLast? = some x) : atI (l.map V.int) (((l.length - 1 : Nat) : Int)) = some (V.int x) := by
  refine atI_nat ?_
  rw [List.getElem?_map]
  rw [List.getLast?_eq_getElem?] at h
  rw [h]
  rfl
theorem pow_le {a n : Nat} (h : n ≤ 4) (ha : a ≤ 6 ^ n) : a ≤ 1296 := Nat.le_trans ha (Nat.le_trans (Nat.pow_le_pow_right (by decide) h) (by decide))
theorem eu_if {t : TT} {ta tb : TE} {σ : L2.St} {H : Hp} {vs : List V} {b : Bool} (h : EvT t σ H b) (h1 : b = true → EvU ta σ H vs) (h2 : b = false → EvU tb σ H vs) : EvU (tIf t ta tb) σ H vs := fun H1 e Q q => h H1 e _ fun H2 e2 => by
  cases b with
  | true =>
    rw [if_pos rfl]
    exact h1 rfl H2 (e.trans e2) Q fun p H3 hp e3 h3 => q p H3 (fresh_back e2 hp) (e2.trans e3) h3
  | false =>
    rw [if_neg (by decide)]
    exact h2 rfl H2 (e.trans e2) Q fun p H3 hp e3 h3 => q p H3 (fresh_back e2 hp) (e2.trans e3) h3
theorem q_asg2 {K : PySem.W.Frag} {te : TE} {tz : TS} {D : Ends} {σ : L2.St} {H : Hp} {i j : Nat} {x y : V} (h : EvU te σ H [x, y]) (k : ∀ H1, Ex H H1 → tz D ((σ.set i (some x)).set j (some y)) H1) : tSeq (tAsg te (gTup K 2 (gCons (gName i) (gCons (gName j) gNil)))) tz D σ H :=
  h H (Ex.refl H) _ fun p H1 hp e h1 => ⟨p, _, rfl, SqT.of h1, rfl, _, _, rfl, _, _, rfl, rfl, k H1 e⟩
theorem ev_isNv {te : TE} {σ : L2.St} {H : Hp} {v : V} (h : Ev te σ H v) : Ev (tIsN te) σ H (.bl (decide (v = .non))) := fun H1 e Q q => h H1 e _ fun H2 e2 => q H2 e2
theorem ev_lenT {K : PySem.W.Frag} {ta : TE} {σ : L2.St} {H : Hp} {a : Addr} {xs : List V} (h : Ev ta σ H (.ref a)) (q : SqT K H a xs) : Ev (tCB (fun ys H Q => ∃ x n, ys = [x] ∧ LenV K x H n ∧ Q (.int n) H) (tCons ta tNil)) σ H (.int (xs.length : Int)) :=
  ev_cb (Evl.ea_cons h Evl.ea_nil) fun H1 e Q k => ⟨_, _, rfl, .inr ⟨xs, ex_t e q, rfl⟩, k H1 (Ex.refl H1)⟩
theorem eu_cat {K : PySem.W.Frag} {ta tb : TE} {σ : L2.St} {H : Hp} {a : Addr} {xs : List V} {x : V} (h : Ev ta σ H (.ref a)) (q : SqT K H a xs) (hb : Ev tb σ H x) (hz : xs.length + 1 ≤ sizeLine) : EvU (tOp (rCatA K) ta (tTup (tCons tb tNil))) σ H (xs ++ [x]) := fun H1 e Q k =>
  h H1 e _ fun H2 e2 => hb H2 (e.trans e2) _ fun H3 e3 => ⟨by show 1 ≤ sizeLine; decide, fun r hr => ⟨a, r, xs, [x], rfl, rfl, ex_t (((e.trans e2).trans e3).trans (Ex.new hr)) q, SqT.of upd_same, hz,
    (fun z => k r _ (fresh_back (e2.trans e3) hr) ((e2.trans e3).trans (Ex.new hr)) (by rw [z]; exact upd_same)), (fun _ z => nomatch z),
    fun _ _ p hp => k p _ (fresh_back ((e2.trans e3).trans (Ex.new hr)) hp) (((e2.trans e3).trans (Ex.new hr)).trans (Ex.new hp)) upd_same⟩⟩
section
variable {P : Program} {w : World} {K : PySem.W.Frag} {mg : Str → Option Value} {base : Heap} {T : Addr}
theorem ok_law_all {f : Addr} {fd : FuncData} (G : Mg mg) (F : Fun K "_law_all" "_law_all" sLawAll f fd) : FnOk P w K mg base CX0 3 f fd ["_law_chain_here"] spAll := by
  refine F.ok scLawAll (fun vs H Q E h => ?_) (fun cdv A outer s H vs Q E hr h => ?_)
  · obtain ⟨c, v, rfl, _⟩ := h
    rfl
  · obtain ⟨c, v, rfl, sm, ⟨a, e, xs, rfl, ha, he, hw⟩, kk⟩ := h
    have hu : A.units + 3 + 64 < cLine := hr.units
    refine ⟨_, pss_cons (ps_asg (pv 0) (pg_tup rfl (pgs_cons (pg_name (i := 1) scLawAll.nd rfl (.inl rfl)) (pgs_cons (pg_name (i := 2) scLawAll.nd rfl (.inl rfl)) (pgs_cons (pg_name (i := 3) scLawAll.nd rfl (.inl rfl)) (pgs_cons (pg_name (i := 4) scLawAll.nd rfl (.inl rfl)) pgs_nil))))))
      (pss_cons (ps_set (i := 5) scLawAll.nd rfl (.inl rfl) (pe_lst (pa_cons (pe_tup pa_nil) pa_nil)))
      (pss_cons (ps_for PassesOwn.never rfl (pi_tup (pv 4)) (pg_tup rfl (pgs_cons (pg_name (i := 6) scLawAll.nd rfl (.inl rfl)) (pgs_cons (pg_name (i := 7) scLawAll.nd rfl (.inl rfl)) pgs_nil)))
        (pss_cons (ps_set (i := 8) scLawAll.nd rfl (.inl rfl) (pe_lst pa_nil))
        (pss_cons (ps_for PassesOwn.never rfl (pi_list (pv 5)) (pg_name (i := 9) scLawAll.nd rfl (.inl rfl))
          (pss_cons (ps_set (i := 10) scLawAll.nd rfl (.inl rfl) (pe_ifExp (pt_cmpR (op_neD hu) (pv 9) (pe_tup pa_nil) (nomark _)) (pe_ix ix_tup (pv 9) (pe_op op_sub (pe_callB call_len (by rfl) G.len boot_len (pa_cons (pv 9) pa_nil)) pe_int) (fun _ _ => rfl)) (pv 3)))
          (pss_cons (ps_asg (pe_ifExp (pt_cmp (pc_isN (pv 10))) (pe_tup (pa_cons pe_int (pa_cons (pv 2) pa_nil))) (pe_tup (pa_cons (pe_op op_add (pv 10) (pv 1)) (pa_cons (pe_op op_add (pv 10) (pv 2)) pa_nil)))) (pg_tup rfl (pgs_cons (pg_name (i := 11) scLawAll.nd rfl (.inl rfl)) (pgs_cons (pg_name (i := 12) scLawAll.nd rfl (.inl rfl)) pgs_nil))))
          (pss_one (ps_for PassesOwn.never rfl (pi_range2 (by rfl) G.range (pa_cons (pe_callB (call_max2 rfl) (by rfl) G.max boot_max (pa_cons (pv 11) (pa_cons (pv 6) pa_nil))) (pa_cons (pe_op op_add (pv 12) pe_int) pa_nil))) (pg_name (i := 13) scLawAll.nd rfl (.inl rfl))
            (pss_one (ps_if (PW.pt (pw_or (pt_cmp (pc_isN (pv 7))) (pw_or1 (pt_cmpR op_le (pv 13) (pv 7) (nomark _)))))
              (pss_one (ps_expr (pe_bm PySem.F.plainAttrs_list PySem.F.slot_list_append PySem.F.type_list_append mt_append (pv 8) (pa_cons (pe_op op_catA (pv 9) (pe_tup (pa_cons (pv 13) pa_nil))) pa_nil)))) pss_nil)))))))
        (pss_one (ps_set (i := 5) scLawAll.nd rfl (.inl rfl) (pv 8))))))
      (pss_one (ps_ret (pv 5))))), ?_⟩
    have hxl : c.ws.length = xs.length := Paired.length hw
    have wl4 := sm.wl
    refine ⟨.ref a, rfl, a, _, rfl, SqT.of ha, rfl, _, _, rfl, _, _, rfl, _, _, rfl, _, _, rfl, rfl, ?_⟩
    refine ⟨by show 0 ≤ sizeLine; decide, fun r hr => ⟨by show 1 ≤ sizeLine; decide, fun D0 hD0 => ?_⟩⟩
    have e01 := Ex.new hr (o := .tup [])
    have e02 := Ex.new hD0 (o := .lst [V.ref r])
    refine q_forT (a := e) (xs := xs) (ev_var rfl) (SqT.of ((e01.trans e02) _ _ he)) (fun i σ' H' => ∃ (D : Addr) (ys : List V) (F : List (List Int)) (y6 y7 y8 y9 y10 y11 y12 y13 : Option V), σ' = [some (.ref a), some (.int (c.g : Nat)), some (.int (c.p : Nat)), some (nonV c.b), some (.ref e), some (.ref D), y6, y7, y8, y9, y10, y11, y12, y13] ∧
      H D = none ∧ Ex H H' ∧ H' D = some (.lst ys) ∧ LnT H' F ys ∧ F.length ≤ 6 ^ i ∧ (∀ l ∈ F, l.length ≤ i ∧ ∀ x ∈ l, 0 ≤ x ∧ x ≤ 5 + 5 * (i : Int)) ∧ Chn.allL c.g c.p c.begI ((c.ws.map winI).drop i) F = c.lines) (fun H3 e3 => ?_) (fun i σ' H' hi p1 => ?_) (fun i x σ' H' hx p1 => ?_) fun σ' H' p1 => ?_
    · exact ⟨D0, [.ref r], [[]], none, none, none, none, none, none, none, none, rfl, fresh_back e01 hD0, (e01.trans e02).trans e3, e3 _ _ upd_same, .cons ⟨r, rfl, (e02.trans e3) _ _ upd_same⟩ .nil, Nat.le_refl 1, (fun l hl => by rw [List.mem_singleton.mp hl]; exact ⟨Nat.le_refl 0, fun x hx => by cases hx⟩), rfl⟩
    · obtain ⟨_, _, _, _, _, _, _, _, _, _, _, _, _, ex, _⟩ := p1
      exact SqT.of (ex _ _ he)
    · obtain ⟨D, ys, F, y6, y7, y8, y9, y10, y11, y12, y13, rfl, hD, ex, hY, hL, hn, hv, hall⟩ := p1
      obtain ⟨w1, hwL, b, rfl, hb⟩ := Paired.at hw hx
      have hi : i < c.ws.length := (List.getElem?_eq_some_iff.mp hwL).1
      have hFl : F.length = ys.length := Paired.length hL
      have hF9 : F.length ≤ 1296 := pow_le (by omega) hn
      have hd : (c.ws.map winI).drop i = winI w1 :: (c.ws.map winI).drop (i + 1) := by
        rw [List.drop_eq_getElem_cons (by rw [List.length_map]; exact hi)]
        congr 1
        rw [List.getElem_map]
        rw [List.getElem?_eq_getElem hi] at hwL
        rw [Option.some.inj hwL]
      rw [hd] at hall
      have hww := sm.ww w1 (List.mem_of_getElem? hwL)
      have stl : ∀ l : List Int, (Chn.stepL c.g c.p c.begI (winI w1) l).length ≤ 6 := fun l => Chn.step_len (Chn.first_wide (by omega) (by have := sm.p5; omega) _)
      have sbl : ∀ l ∈ F, 0 ≤ (Chn.first c.g c.p (Chn.lastOf c.begI l)).1 ∧ (Chn.first c.g c.p (Chn.lastOf c.begI l)).1 ≤ 100 ∧ 0 ≤ (Chn.first c.g c.p (Chn.lastOf c.begI l)).2 ∧ (Chn.first c.g c.p (Chn.lastOf c.begI l)).2 ≤ 10 + 5 * (i : Int) := fun l hlm => by
        have g3 := sm.g3
        have p5 := sm.p5
        cases hla : Chn.lastOf c.begI l with
        | none =>
          show 0 ≤ (0 : Int) ∧ (0 : Int) ≤ 100 ∧ 0 ≤ (c.p : Int) ∧ (c.p : Int) ≤ _
          omega
        | some x =>
          have xb : 0 ≤ x ∧ x ≤ 5 + 5 * (i : Int) := by
            unfold Chn.lastOf at hla
            cases hgl : l.getLast? with
            | none =>
              rw [hgl] at hla
              unfold Ch.begI at hla
              cases hcb : c.b with
              | none => rw [hcb] at hla; cases hla
              | some n =>
                rw [hcb] at hla
                have := sm.b5 n hcb
                have z : (n : Int) = x := Option.some.inj hla
                omega
            | some z =>
              rw [hgl] at hla
              have z1 : z = x := Option.some.inj hla
              rw [← z1]
              exact (hv l hlm).2 z (List.mem_of_getLast? hgl)
          show 0 ≤ x + (c.g : Int) ∧ x + (c.g : Int) ≤ 100 ∧ 0 ≤ x + (c.p : Int) ∧ x + (c.p : Int) ≤ _
          omega
      refine ⟨b, _, rfl, SqT.of (ex _ _ hb), rfl, _, _, rfl, _, _, rfl, rfl, ?_⟩
      refine q_asgL (xs := []) (el_lst ea_nil (by decide)) fun D2 H2 hD2 e2 h2 => ?_
      refine q_forL (a := D) (xs := ys) (ev_var rfl) (SqL.of (e2 _ _ hY)) (fun j σ2 H'' => ∃ (zs : List V) (L : List (List Int)) (y9 y10 y11 y12 y13 : Option V), σ2 = [some (.ref a), some (.int (c.g : Nat)), some (.int (c.p : Nat)), some (nonV c.b), some (.ref e), some (.ref D), some (.int (w1.1 : Nat)), some (nonV w1.2), some (.ref D2), y9, y10, y11, y12, y13] ∧
        Ex H' H'' ∧ H'' D2 = some (.lst zs) ∧ LnT H'' L zs ∧ L = (F.take j).flatMap (Chn.stepL c.g c.p c.begI (winI w1))) (fun H3 e3 => ⟨[], [], _, _, _, _, _, rfl, e2.trans e3, e3 _ _ h2, .nil, rfl⟩) (fun j σ2 H'' _ p2 => ?_) (fun j x σ2 H'' hx2 p2 => ?_) fun σ2 H'' p2 => ?_
      · obtain ⟨_, _, _, _, _, _, _, _, ex2, _⟩ := p2
        exact SqL.of (ex2 _ _ hY)
      · obtain ⟨zs, L, y9, y10, y11, y12, y13, rfl, ex2, hZ, hLz, hLe⟩ := p2
        obtain ⟨l, hlF, q, rfl, hq⟩ := Paired.at hL hx2
        have hj : j < F.length := (List.getElem?_eq_some_iff.mp hlF).1
        have hlm : l ∈ F := List.mem_of_getElem? hlF
        have hq2 := ex2 _ _ hq
        have tk : F.take (j + 1) = F.take j ++ [l] := by rw [List.take_add_one, hlF]; rfl
        have hLl : L.length ≤ 6 * 1296 := by
          rw [hLe]
          refine Nat.le_trans (Chn.flat_len fun l _ => stl l) (Nat.mul_le_mul_left 6 ?_)
          rw [List.length_take]
          omega
        obtain ⟨la, hla⟩ : ∃ la, la = Chn.lastOf c.begI l := ⟨_, rfl⟩
        obtain ⟨st, hst⟩ : ∃ st, st = Chn.first c.g c.p la := ⟨_, rfl⟩
        have sb : 0 ≤ st.1 ∧ st.1 ≤ 100 ∧ 0 ≤ st.2 ∧ st.2 ≤ 10 + 5 * (i : Int) := by
          rw [hst, hla]
          exact sbl l hlm
        refine q_asg (v := nonI la) ?_ fun H4 e4 => ?_
        · refine ev_if (b := !l.isEmpty) (et_test (ev_is (ev_opU (xs := []) (z := .bl (!PyData.eqv (dInts l) (.tuple []))) (ev_var rfl) (eu_tup ea_nil (by decide)) fun p H5 hp e5 => rv_val fun H6 e6 Q hQ => ⟨dInts l, .tuple [], dpInts ((e5.trans e6) _ _ hq2), .tup (SqT.of (e6 _ _ hp)) .nil, ints_shaped l, rfl, hQ⟩) (by rw [ints_nil]))) (fun z => ?_) fun z => ?_
          · have hne : l ≠ [] := fun y => by rw [y] at z; cases z
            obtain ⟨x, hx3⟩ : ∃ x, l.getLast? = some x := ⟨l.getLast hne, List.getLast?_eq_some_getLast hne⟩
            have ela : la = some x := by rw [hla]; unfold Chn.lastOf; rw [hx3]
            rw [ela]
            have el : ((l.map V.int).length : Int) - 1 = ((l.length - 1 : Nat) : Int) := by
              rw [List.length_map]
              have : 0 < l.length := List.length_pos_iff.mpr hne
              omega
            exact ev_op (ev_var rfl) (ev_is (ev_op (ev_lenT (ev_var rfl) (SqT.of hq2)) ev_c rv_I0) (by rw [el])) (rv_ixT (SqT.of hq2) (last_at hx3))
          · have hne : l = [] := by cases l with
              | nil => rfl
              | cons x l => cases z
            have ela : la = c.begI := by rw [hla, hne]; rfl
            rw [ela]
            refine ev_is (ev_var rfl) ?_
            rw [nonV_eq]
            rfl
        refine q_asg2 (K := K) (x := .int st.1) (y := .int st.2) (eu_if (b := decide (nonI la = .non)) (et_B (ev_isNv (ev_var rfl))) (fun z => ?_) fun z => ?_) fun H5 e5 => ?_
        · have hn : la = none := by
            cases la with
            | none => rfl
            | some x => cases z
          rw [hst, hn]
          exact eu_tup (ea_cons ev_c (ea_cons (ev_var rfl) ea_nil)) (by show 2 ≤ 100000; decide)
        · obtain ⟨x, hn⟩ : ∃ x, la = some x := by
            cases la with
            | none => cases z
            | some x => exact ⟨x, rfl⟩
          rw [hst, hn]
          exact eu_tup (ea_cons (ev_op (ev_var (v := .int x) rfl) (ev_var rfl) rv_I0) (ea_cons (ev_op (ev_var (v := .int x) rfl) (ev_var rfl) rv_I0) ea_nil)) (by show 2 ≤ 100000; decide)
        have ex5 := (ex2.trans e4).trans e5
        have hZ5 := (e4.trans e5) _ _ hZ
        have hL5 := hLz.ex (e4.trans e5)
        have hw0 := hww.1
        have eS : Chn.stepL c.g c.p c.begI (winI w1) l = (((List.range (st.2 + 1 - max st.1 (w1.1 : Int)).toNat).map fun i => max st.1 (w1.1 : Int) + (i : Nat)).filter (Chn.okHi (winI w1))).map fun x => l ++ [x] := by
          unfold Chn.stepL
          rw [← hla, ← hst]
          rfl
        refine s_forR2 (lo := max st.1 (w1.1 : Int)) (n := st.2 + 1) (ea_cons (ev_is (ev_cb (ea_cons (ev_var rfl) (ea_cons (ev_var rfl) ea_nil)) fun H1 _ Q q => ⟨_, _, rfl, q H1 (Ex.refl H1)⟩) (by rw [max_if])) (ea_cons (ev_op (ev_var rfl) ev_c rv_I0) ea_nil)) ⟨by omega, by omega, by omega, by omega⟩
          (fun k σ3 H3 => ∃ (zs : List V) (y13 : Option V), σ3 = [some (.ref a), some (.int (c.g : Nat)), some (.int (c.p : Nat)), some (nonV c.b), some (.ref e), some (.ref D), some (.int (w1.1 : Nat)), some (nonV w1.2), some (.ref D2), some (.ref q), some (nonI la), some (.int st.1), some (.int st.2), y13] ∧
            Ex H' H3 ∧ H3 D2 = some (.lst zs) ∧ LnT H3 (L ++ (((List.range k).map fun i => max st.1 (w1.1 : Int) + (i : Nat)).filter (Chn.okHi (winI w1))).map fun x => l ++ [x]) zs) (fun H6 e6 => ⟨zs, _, rfl, ex5.trans e6, e6 _ _ hZ5, by rw [List.range_zero]; show LnT H6 (L ++ []) zs; rw [List.append_nil]; exact hL5.ex e6⟩) (fun k σ3 H3 hk p3 => ?_) fun σ3 H3 p3 => ?_
        · obtain ⟨zs3, y13, rfl, ex3, hZ3, hL3⟩ := p3
          obtain ⟨x, hxe⟩ : ∃ x, x = max st.1 (w1.1 : Int) + (k : Nat) := ⟨_, rfl⟩
          rw [← hxe]
          have tst : EvT (tOr (tB (tIsN (tVar 7))) (tTest (tOp (rI0 fun i j => .bl (decide (i ≤ j))) (tVar 13) (tVar 7)))) [some (.ref a), some (.int (c.g : Nat)), some (.int (c.p : Nat)), some (nonV c.b), some (.ref e), some (.ref D), some (.int (w1.1 : Nat)), some (nonV w1.2), some (.ref D2), some (.ref q), some (nonI la), some (.int st.1), some (.int st.2), some (.int x)] H3 (Chn.okHi (winI w1) x) := by
            obtain ⟨lo, hi⟩ := w1
            cases hi with
            | none => exact et_is (b := true) (et_or (a := true) (b := true) (et_B (ev_isNv (v := .non) (ev_var rfl))) fun z => nomatch z) rfl
            | some h => exact et_is (et_or (a := false) (et_B (ev_isNv (v := .int (h : Nat)) (ev_var rfl))) fun _ => et_test (ev_op (ev_var rfl) (ev_var (v := .int (h : Nat)) rfl) rv_I0)) rfl
          have rs : (((List.range (k + 1)).map fun i => max st.1 (w1.1 : Int) + (i : Nat)).filter (Chn.okHi (winI w1))).map (fun x => l ++ [x]) = (((List.range k).map fun i => max st.1 (w1.1 : Int) + (i : Nat)).filter (Chn.okHi (winI w1))).map (fun x => l ++ [x]) ++ if Chn.okHi (winI w1) x = true then [l ++ [x]] else [] := by
            rw [List.range_succ, List.map_append, List.filter_append, List.map_append]
            congr 1
            show List.map _ (List.filter _ [max st.1 (w1.1 : Int) + (k : Nat)]) = _
            rw [← hxe, List.filter_cons]
            split <;> rfl
          have q3 : H3 q = some (.tup (l.map V.int)) := ex3 _ _ hq
          refine s_if tst (fun z H6 e6 => ?_) fun z H6 e6 => ?_
          · have ll : l.length ≤ 100000 := by
              have := (hv l hlm).1
              omega
            have hzl : zs3.length < 100000 := by
              have z1 : (L ++ (((List.range k).map fun i => max st.1 (w1.1 : Int) + (i : Nat)).filter (Chn.okHi (winI w1))).map fun x => l ++ [x]).length = zs3.length := Paired.length hL3
              rw [List.length_append, List.length_map] at z1
              have z2 := List.length_filter_le (Chn.okHi (winI w1)) ((List.range k).map fun i => max st.1 (w1.1 : Int) + (i : Nat))
              rw [List.length_map, List.length_range] at z2
              omega
            refine s_appU (K := K) (ys := l.map V.int ++ [.int x]) (e6 _ _ hZ3) (ev_var rfl) (eu_cat (ev_var rfl) (SqT.of (e6 _ _ q3)) (ev_var rfl) (by rw [List.length_map]; exact Nat.le_trans (Nat.succ_le_succ ll) (by decide))) hzl fun q7 H7 hq7 e7 h7 => ?_
            have hZ7 := (e6.trans e7) _ _ hZ3
            refine ⟨_, _, rfl, Ex.mut (H := H') (ex3.trans (e6.trans e7)) hD2, upd_same, ?_⟩
            rw [rs, if_pos z, ← List.append_assoc]
            have q8 : H7 q7 = some (.tup ((l ++ [x]).map V.int)) := by rw [List.map_append]; exact h7
            exact ((hL3.ex (e6.trans e7)).snoc q8).upd hZ7
          · refine ⟨zs3, _, rfl, ex3.trans e6, e6 _ _ hZ3, ?_⟩
            rw [rs, if_neg (by rw [z]; decide), List.append_nil]
            exact hL3.ex e6
        · obtain ⟨zs3, y13, rfl, ex3, hZ3, hL3⟩ := p3
          refine ⟨zs3, _, _, _, _, _, _, rfl, ex3, hZ3, hL3, ?_⟩
          rw [tk, List.flatMap_append, ← hLe, List.flatMap_singleton, eS]
      · obtain ⟨zs, L, y9, y10, y11, y12, y13, rfl, ex2, hZ, hLz, hLe⟩ := p2
        rw [← hFl, List.take_length] at hLe
        refine ⟨_, rfl, D2, zs, L, _, _, _, _, _, _, _, _, rfl, fresh_back ex hD2, ex.trans ex2, hZ, hLz, ?_, ?_, ?_⟩
        · rw [hLe, Nat.pow_succ, Nat.mul_comm]
          exact Nat.le_trans (Chn.flat_len fun l _ => stl l) (Nat.mul_le_mul_left 6 hn)
        · intro l hl
          rw [hLe] at hl
          obtain ⟨l0, h0, h1⟩ := List.mem_flatMap.mp hl
          obtain ⟨x1, rfl, ⟨b1, b2⟩, b3, _⟩ := Chn.mem_step.mp h1
          have q1 := hv l0 h0
          have q2 := sbl l0 h0
          refine ⟨by rw [List.length_append]; exact Nat.succ_le_succ q1.1, fun x hx => ?_⟩
          rcases List.mem_append.mp hx with y | y
          · have := q1.2 x y
            omega
          · rw [List.mem_singleton.mp y]
            omega
        · rw [hLe]
          exact hall
    · obtain ⟨D, ys, F, y6, y7, y8, y9, y10, y11, y12, y13, rfl, hD, ex, hY, hL, hn, hv, hall⟩ := p1
      have hdr : (c.ws.map winI).drop xs.length = [] := List.drop_eq_nil_of_le (by rw [List.length_map]; omega)
      rw [hdr] at hall
      have hF : F = c.lines := hall
      rw [hF] at hL hn
      exact ⟨_, rfl, kk D ys H' hD ex hY hL (pow_le (by omega) hn)⟩
end
end K04
set_option Elab.async false
set_option linter.all false
set_option maxRecDepth 100000
set_option maxHeartbeats 4000000
/-! zip of two sequences, each a list or a tuple. -/
namespace Pz
open PySem
open PySem.Sem (wp)
/-- a list's or a tuple's iterator at its k-th item; the sequence itself -/
def ItAt (h : Heap) (b : Bool) (it l : Addr) (k : Nat) : Prop := match b with
  | true => h.IsTupleIter it l k
  | false => h.IsListIter it l k
def SqAt (h : Heap) (b : Bool) (l : Addr) (xs : Array Value) : Prop := match b with
  | true => h.IsTuple l xs
  | false => h.IsList l xs
section
variable {prog : Program} {w : World} {A : Around} {E : Value → Shared → Prop} {s : Shared}
theorem ItAt.to {h g : Heap} {b : Bool} {it l : Addr} {k : Nat} (x : ItAt h b it l k) (e : ∀ o, h.get? it = some o → g.get? it = some o) : ItAt g b it l k := by
  cases b with
  | true => exact Heap.IsTupleIter.at x e
  | false => exact Heap.IsListIter.at x e
theorem ItAt.lt {h : Heap} {b : Bool} {it l : Addr} {k : Nat} (x : ItAt h b it l k) : it < h.objs.size := by
  cases b with
  | true => obtain ⟨_, e, _⟩ := x; exact Heap.lt_size e
  | false => obtain ⟨_, e, _⟩ := x; exact Heap.lt_size e
theorem ItAt.ob {h : Heap} {b : Bool} {it l : Addr} {k : Nat} (x : ItAt h b it l k) : ∃ o, h.get? it = some o ∧ ∀ v, o.data ≠ .cell v := by
  cases b with
  | true => obtain ⟨o, e, _, d⟩ := x; exact ⟨o, e, fun v q => by rw [d] at q; cases q⟩
  | false => obtain ⟨o, e, _, d⟩ := x; exact ⟨o, e, fun v q => by rw [d] at q; cases q⟩
theorem SqAt.to {h g : Heap} {b : Bool} {l : Addr} {xs : Array Value} (x : SqAt h b l xs) (e : ∀ o, h.get? l = some o → g.get? l = some o) : SqAt g b l xs := by
  cases b with
  | true => obtain ⟨o, a, r⟩ := x; exact ⟨o, e o a, r⟩
  | false => obtain ⟨o, a, r⟩ := x; exact ⟨o, e o a, r⟩
theorem SqAt.lt {h : Heap} {b : Bool} {l : Addr} {xs : Array Value} (x : SqAt h b l xs) : l < h.objs.size := by
  cases b with
  | true => obtain ⟨_, e, _⟩ := x; exact Heap.lt_size e
  | false => obtain ⟨_, e, _⟩ := x; exact Heap.lt_size e
theorem draw {b : Bool} {it l : Addr} {k : Nat} {xs : Array Value} {v : Value} {Q : Value → Shared → Prop} (x : ItAt s.heap b it l k) (y : SqAt s.heap b l xs) (hv : xs[k]? = some v)
    (q : ∀ g, ItAt g b it l (k + 1) → Heap.SameBut it s.heap g → Q v { s with heap := g }) : wpAny (model prog w) A (Builtin.SmallTypes.nextOf (.ref it)) Q E s := by
  cases b with
  | true => exact RZ.nextOf_tuple_item x y hv q
  | false => exact wpAny_nextOf_list_item x y hv q
theorem drawn {b : Bool} {it l : Addr} {k : Nat} {xs : Array Value} {Q : Value → Shared → Prop} (hh : A.handled = none) (x : ItAt s.heap b it l k) (y : SqAt s.heap b l xs) (hv : xs[k]? = none)
    (q : ∀ g e, Heap.ExtBut it s.heap g → (∃ o, g.get? e = some o ∧ o.cls = .type "StopIteration") → E (.ref e) { s with heap := g }) : wpAny (model prog w) A (Builtin.SmallTypes.nextOf (.ref it)) Q E s := by
  cases b with
  | true => exact RZ.nextOf_tuple_end hh x y hv q
  | false => exact wpAny_nextOf_list_end hh x y hv q
end
end Pz
set_option Elab.async false
set_option linter.all false
set_option maxRecDepth 100000
set_option maxHeartbeats 4000000
namespace Pz
open PySem
open PySem.Sem (wp)
/-- all but the zip, its pair and its two iterators stays -/
def Far (z O i j : Addr) (h g : Heap) : Prop := ∀ c o, c ≠ z → c ≠ O → c ≠ i → c ≠ j → h.get? c = some o → g.get? c = some o
section
variable {prog : Program} {w : World} {A : Around} {E : Value → Shared → Prop} {s : Shared} {b b' : Bool} {z N O i j l l' : Addr} {k k' : Nat} {xs ys : Array Value} {p q u v : Value}
theorem zip_item {Q : Value → Shared → Prop} (D : ZipApart z N O i j l l') (hz : IsZip s.heap z N O .none) (hN : IsPair s.heap N (.ref i) (.ref j)) (hO : IsPair s.heap O p q)
    (x1 : ItAt s.heap b i l k) (x2 : ItAt s.heap b' j l' k') (y1 : SqAt s.heap b l xs) (y2 : SqAt s.heap b' l' ys) (hu : xs[k]? = some u) (hv : ys[k']? = some v)
    (done : ∀ g, IsZip g z N O (rawInt s.heap.objs.size) → IsPair g O u v → ItAt g b i l (k + 1) → ItAt g b' j l' (k' + 1) → IsPair g s.heap.objs.size u v → g.objs.size = s.heap.objs.size + 1 → Far z O i j s.heap g → Q (.ref s.heap.objs.size) { s with heap := g }) :
    wpAny (model prog w) A (Builtin.«zip.__next__» ⟨[.ref z], []⟩) (fun f t => ∃ r, f = .done (.ret r) ∧ Q r t) E s := by
  show wpAny _ _ (field (.ref z) 2 >>= _) _ _ _; refine wpAny_bind (wpAny_field hz rfl (x := .bool false) rfl ?_)
  show wpAny _ _ (field (.ref z) 3 >>= _) _ _ _; refine wpAny_bind (wpAny_field hz rfl (x := .ref N) rfl (wpAny_bind (wpAny_seqItems hN rfl ?_)))
  show wpAny _ _ (Builtin.SmallTypes.ownedTupleIsFree (.ref z) >>= _) _ _ _; refine wpAny_bind ?_; unfold Builtin.SmallTypes.ownedTupleIsFree
  refine wpAny_bind (wpAny_field hz rfl (x := .none) rfl (wpAny_pure ?_)); simp only [if_true]; refine wpAny_bind (wpAny_rule (wpAny_bind (wpAny_field hz rfl (x := .ref O) rfl ?_)))
  refine wpAny_bind (wpAny_setField_rec hz (by simp) fun g1 z1 s1 => ?_); replace z1 : IsZip g1 z N O .ellipsis := z1
  refine wpAny_bind ?_; simp only [List.zipIdx_cons, List.zipIdx_nil, List.forIn_cons, List.forIn_nil]
  -- the first sequence
  refine wpAny_bind (wpAny_bind (wpAny_onRaise ?_)); show wpAny _ _ (Builtin.SmallTypes.nextOf (.ref i) >>= _) _ _ _
  refine wpAny_bind (draw (s := { s with heap := g1 }) (x1.to fun o e => s1.extBut _ _ D.i1z e) (y1.to fun o e => s1.extBut _ _ D.l1z e) hu fun g2 w1 s2 => wpAny_pure ?_)
  have o2 : IsPair g2 O p q := s2.extBut _ _ D.TOi1 (s1.extBut _ _ D.TOz hO)
  refine wpAny_bind (wpAny_seqItems o2 rfl (wpAny_bind (wpAny_updateSeq_pair o2 fun g3 o3 s3 => ?_))); replace o3 : IsPair g3 O u q := o3
  refine wpAny_bind (wpAny_letGo (wpAny_pure (wpAny_bind (wpAny_bind (wpAny_onRaise ?_)))))
  -- the second one
  show wpAny _ _ (Builtin.SmallTypes.nextOf (.ref j) >>= _) _ _ _
  have far3 : ∀ c o, c ≠ z → c ≠ i → c ≠ O → s.heap.get? c = some o → g3.get? c = some o := fun c o n1 n2 n3 e => s3.extBut _ _ n3 (s2.extBut _ _ n2 (s1.extBut _ _ n1 e))
  refine wpAny_bind (draw (s := { s with heap := g3 }) (x2.to fun o e => far3 _ _ D.i2z D.i12.symm D.TOi2.symm e) (y2.to fun o e => far3 _ _ D.l2z D.l2i1 D.l2TO e) hv fun g4 w2 s4 => wpAny_pure ?_)
  have o4 : IsPair g4 O u q := s4.extBut _ _ D.TOi2 o3
  refine wpAny_bind (wpAny_seqItems o4 rfl (wpAny_bind (wpAny_updateSeq_pair o4 fun g5 o5 s5 => ?_))); replace o5 : IsPair g5 O u v := o5
  refine wpAny_bind (wpAny_letGo (wpAny_pure (wpAny_pure (wpAny_bind (wpAny_seqItems o5 rfl (wpAny_bind (wpAny_newTuple ?_)))))))
  have far5 : Far z O i j s.heap g5 := fun c o n1 n2 n3 n4 e => s5.extBut _ _ n2 (s4.extBut _ _ n4 (far3 c o n1 n3 n2 e))
  have sz5 : g5.objs.size = s.heap.objs.size := by rw [s5.1, s4.1, s3.1, s2.1, s1.1]
  have z5 : IsZip g5 z N O .ellipsis := s5.extBut _ _ D.TOz.symm (s4.extBut _ _ D.i2z.symm (s3.extBut _ _ D.TOz.symm (s2.extBut _ _ D.i1z.symm z1)))
  have v1 : ItAt g5 b i l (k + 1) := w1.to fun o e => s5.extBut _ _ D.TOi1.symm (s4.extBut _ _ D.i12 (s3.extBut _ _ D.TOi1.symm e))
  have v2 : ItAt g5 b' j l' (k' + 1) := w2.to fun o e => s5.extBut _ _ D.TOi2.symm e
  have zl : z < g5.objs.size := Heap.lt_size z5
  -- the new tuple is handed out
  show wpAny _ _ (Builtin.SmallTypes.ownedTupleHandOut (.ref z) (.ref g5.objs.size) >>= _) _ _ _; refine wpAny_bind ?_; unfold Builtin.SmallTypes.ownedTupleHandOut
  refine wpAny_bind (wpAny_setField_rec (show IsZip (g5.push { cls := .type "tuple", data := .seq #[u, v] }) z N O .ellipsis from Heap.get?_push_of_some _ z5) (by simp) fun g6 z6 s6 => ?_)
  replace z6 : IsZip g6 z N O (rawInt g5.objs.size) := z6; refine wpAny_setField_rec z6 (by simp) fun g7 z7 s7 => ?_; replace z7 : IsZip g7 z N O (rawInt g5.objs.size) := z7
  have up : ∀ c o, c ≠ z → g5.get? c = some o → g7.get? c = some o := fun c o n e => s7.extBut _ _ n (s6.extBut _ _ n (Heap.get?_push_of_some _ e))
  have new : IsPair g7 g5.objs.size u v := s7.extBut _ _ (Nat.ne_of_gt zl) (s6.extBut _ _ (Nat.ne_of_gt zl) (Heap.get?_push_size _ rfl))
  have sz7 : g7.objs.size = g5.objs.size + 1 := by rw [s7.1, s6.1, Heap.size_push]
  rw [sz5] at z7 new sz7
  refine wpAny_pure ⟨_, rfl, ?_⟩; show Q (.ref g5.objs.size) _; rw [sz5]
  exact done g7 z7 (up _ _ D.TOz o5) (v1.to fun o e => up _ _ D.i1z e) (v2.to fun o e => up _ _ D.i2z e) new sz7 fun c o n1 n2 n3 n4 e => up _ _ n1 (far5 c o n1 n2 n3 n4 e)
end
end Pz
set_option Elab.async false
set_option linter.all false
set_option maxRecDepth 100000
set_option maxHeartbeats 4000000
namespace Pz
open PySem
open PySem.Sem (wp)
section
variable {prog : Program} {w : World} {A : Around} {E : Value → Shared → Prop} {s : Shared} {b b' : Bool} {z N O i j l l' : Addr} {k k' : Nat} {xs ys : Array Value} {p q u v : Value}
theorem zip_over {Q : Fin → Shared → Prop} (calm : A.handled = none) (D : ZipApart z N O i j l l') (hz : IsZip s.heap z N O .none) (hN : IsPair s.heap N (.ref i) (.ref j)) (hO : IsPair s.heap O p q)
    (x1 : ItAt s.heap b i l k) (x2 : ItAt s.heap b' j l' k') (y1 : SqAt s.heap b l xs) (y2 : SqAt s.heap b' l' ys) (over : xs[k]? = none ∨ ys[k']? = none)
    (stop : ∀ g e, Far z O i j s.heap g → (∃ o, g.get? e = some o ∧ o.cls = .type "StopIteration") → E (.ref e) { s with heap := g }) :
    wpAny (model prog w) A (Builtin.«zip.__next__» ⟨[.ref z], []⟩) Q E s := by
  show wpAny _ _ (field (.ref z) 2 >>= _) _ _ _; refine wpAny_bind (wpAny_field hz rfl (x := .bool false) rfl ?_)
  show wpAny _ _ (field (.ref z) 3 >>= _) _ _ _; refine wpAny_bind (wpAny_field hz rfl (x := .ref N) rfl (wpAny_bind (wpAny_seqItems hN rfl ?_)))
  show wpAny _ _ (Builtin.SmallTypes.ownedTupleIsFree (.ref z) >>= _) _ _ _; refine wpAny_bind ?_; unfold Builtin.SmallTypes.ownedTupleIsFree
  refine wpAny_bind (wpAny_field hz rfl (x := .none) rfl (wpAny_pure ?_)); simp only [if_true]; refine wpAny_bind (wpAny_rule (wpAny_bind (wpAny_field hz rfl (x := .ref O) rfl ?_)))
  refine wpAny_bind (wpAny_setField_rec hz (by simp) fun g1 z1 s1 => ?_); replace z1 : IsZip g1 z N O .ellipsis := z1
  refine wpAny_bind ?_; simp only [List.zipIdx_cons, List.zipIdx_nil, List.forIn_cons, List.forIn_nil]
  refine wpAny_bind (wpAny_bind (wpAny_onRaise ?_)); show wpAny _ _ (Builtin.SmallTypes.nextOf (.ref i) >>= _) _ _ _
  have xi : ItAt g1 b i l k := x1.to fun o e => s1.extBut _ _ D.i1z e
  have yi : SqAt g1 b l xs := y1.to fun o e => s1.extBut _ _ D.l1z e
  match hu : xs[k]? with
  | none =>
    refine wpAny_bind (drawn (s := { s with heap := g1 }) calm xi yi hu fun g2 e far fin => ?_)
    obtain ⟨oe, he, ce⟩ := fin
    have z2 : IsZip g2 z N O .ellipsis := far _ _ D.i1z.symm z1
    have en : e ≠ z := by intro y; rw [y, z2] at he; cases he; simp at ce
    exact wpAny_setField_rec z2 (by simp) fun g3 _ s3 => stop g3 e (fun c o n1 _ n3 _ a => s3.extBut _ _ n1 (far _ _ n3 (s1.extBut _ _ n1 a))) ⟨oe, s3.extBut _ _ en he, ce⟩
  | some u =>
    have hv : ys[k']? = none := over.resolve_left fun y => by rw [hu] at y; cases y
    refine wpAny_bind (draw (s := { s with heap := g1 }) xi yi hu fun g2 w1 s2 => wpAny_pure ?_)
    have o2 : IsPair g2 O p q := s2.extBut _ _ D.TOi1 (s1.extBut _ _ D.TOz hO)
    refine wpAny_bind (wpAny_seqItems o2 rfl (wpAny_bind (wpAny_updateSeq_pair o2 fun g3 o3 s3 => ?_)))
    refine wpAny_bind (wpAny_letGo (wpAny_pure (wpAny_bind (wpAny_bind (wpAny_onRaise ?_))))); show wpAny _ _ (Builtin.SmallTypes.nextOf (.ref j) >>= _) _ _ _
    have far3 : ∀ c o, c ≠ z → c ≠ i → c ≠ O → s.heap.get? c = some o → g3.get? c = some o := fun c o n1 n2 n3 e => s3.extBut _ _ n3 (s2.extBut _ _ n2 (s1.extBut _ _ n1 e))
    refine wpAny_bind (drawn (s := { s with heap := g3 }) calm (x2.to fun o e => far3 _ _ D.i2z D.i12.symm D.TOi2.symm e) (y2.to fun o e => far3 _ _ D.l2z D.l2i1 D.l2TO e) hv fun g4 e far fin => ?_)
    obtain ⟨oe, he, ce⟩ := fin
    have z4 : IsZip g4 z N O .ellipsis := far _ _ D.i2z.symm (s3.extBut _ _ D.TOz.symm (s2.extBut _ _ D.i1z.symm z1))
    have en : e ≠ z := by intro y; rw [y, z4] at he; cases he; simp at ce
    exact wpAny_setField_rec z4 (by simp) fun g5 _ s5 => stop g5 e (fun c o n1 n2 n3 n4 a => s5.extBut _ _ n1 (far _ _ n4 (far3 c o n1 n3 n2 a))) ⟨oe, s5.extBut _ _ en he, ce⟩
theorem next_item {Q : Option Value → Shared → Prop} (D : ZipApart z N O i j l l') (hz : IsZip s.heap z N O .none) (hN : IsPair s.heap N (.ref i) (.ref j)) (hO : IsPair s.heap O p q)
    (x1 : ItAt s.heap b i l k) (x2 : ItAt s.heap b' j l' k') (y1 : SqAt s.heap b l xs) (y2 : SqAt s.heap b' l' ys) (hu : xs[k]? = some u) (hv : ys[k']? = some v)
    (done : ∀ g, IsZip g z N O (rawInt s.heap.objs.size) → IsPair g O u v → ItAt g b i l (k + 1) → ItAt g b' j l' (k' + 1) → IsPair g s.heap.objs.size u v → g.objs.size = s.heap.objs.size + 1 → Far z O i j s.heap g → Q (some (.ref s.heap.objs.size)) { s with heap := g }) :
    wpAny (model prog w) A (pyNext (.ref z)) Q E s := by
  have ty : s.TypeIs (.ref z) "zip" := ⟨_, hz, rfl⟩
  unfold pyNext
  refine wpAny_bind (wpAny_attempt (wpAny_callSpecial?_slot (name := Str.ofString "__next__") ty F.slot_zip_next (wpAny_call_entry F.slot_zip_next ty F.entry_zip_next ?_ (F.args_zip_next_1 _))))
  exact zip_item D hz hN hO x1 x2 y1 y2 hu hv fun g c1 c2 c3 c4 c5 c6 c7 => wpAny_pure (done g c1 c2 c3 c4 c5 c6 c7)
theorem next_over {Q : Option Value → Shared → Prop} (calm : A.handled = none) (D : ZipApart z N O i j l l') (hz : IsZip s.heap z N O .none) (hN : IsPair s.heap N (.ref i) (.ref j)) (hO : IsPair s.heap O p q)
    (x1 : ItAt s.heap b i l k) (x2 : ItAt s.heap b' j l' k') (y1 : SqAt s.heap b l xs) (y2 : SqAt s.heap b' l' ys) (over : xs[k]? = none ∨ ys[k']? = none) (done : ∀ g, Far z O i j s.heap g → Q none { s with heap := g }) :
    wpAny (model prog w) A (pyNext (.ref z)) Q E s := by
  have ty : s.TypeIs (.ref z) "zip" := ⟨_, hz, rfl⟩
  unfold pyNext
  refine wpAny_bind (wpAny_attempt (wpAny_callSpecial?_slot (name := Str.ofString "__next__") ty F.slot_zip_next (wpAny_call_entry F.slot_zip_next ty F.entry_zip_next ?_ (F.args_zip_next_1 _))))
  refine zip_over calm D hz hN hO x1 x2 y1 y2 over fun g e far fin => ?_
  obtain ⟨o, ho, hc⟩ := fin
  exact wpAny_bind (wpAny_isInstance (T := "StopIteration") (b := true) ⟨o, ho, hc⟩ isSubtype_stop (wpAny_pure (done g far)))
/-- the class of a sequence's iterator -/
def itCls (b : Bool) : Value := if b = true then .type "tuple_iterator" else .type "list_iterator"
theorem iter_of {Q : Value → Shared → Prop} (y : SqAt s.heap b l xs) (q : Q (.ref s.heap.objs.size) { s with heap := s.heap.push { cls := itCls b, data := .fields #[.ref l, .int 0 0] } }) : wpAny (model prog w) A (pyIter (.ref l)) Q E s := by
  cases b with
  | true => exact wpAny_pyIter_tuple y q
  | false => exact wpAny_pyIter_list y q
theorem it_new {h : Heap} {g : Heap} {a : Addr} (e : g.get? a = some { cls := itCls b, data := .fields #[.ref l, .int 0 0] }) : ItAt g b a l 0 := by
  cases b with
  | true => exact ⟨_, e, rfl, rfl⟩
  | false => exact ⟨_, e, rfl, rfl⟩
end
end Pz
set_option Elab.async false
set_option linter.all false
set_option maxRecDepth 100000
set_option maxHeartbeats 4000000
namespace Pz
open PySem
open PySem.Sem (wp)
def itOf (b : Bool) (l : Addr) : Obj := { cls := itCls b, data := .fields #[.ref l, .int 0 0] }
def made2 (h : Heap) (b b' : Bool) (l l' : Addr) : Heap := (h.push (itOf b l)).push (itOf b' l')
def made3 (h : Heap) (b b' : Bool) (l l' : Addr) : Heap := (made2 h b b' l l').push { cls := .type "tuple", data := .seq #[.ref h.objs.size, .ref (h.push (itOf b l)).objs.size] }
def made4 (h : Heap) (b b' : Bool) (l l' : Addr) : Heap := (made3 h b b' l l').push { cls := .type "tuple", data := .seq #[.none, .none] }
def made5 (h : Heap) (b b' : Bool) (l l' : Addr) : Heap := (made4 h b b' l l').push { cls := .type "zip", data := .fields #[.none, .bool false, .bool false, .ref (made2 h b b' l l').objs.size, .ref (made3 h b b' l l').objs.size] }
theorem zip_makes (b b' : Bool) (l l' : Addr) (xs ys : Array Value) :
    Meets (Builtin.«zip.__new__» ⟨[.type "zip", .ref l, .ref l'], []⟩) (fun _ R s => SqAt s.heap b l xs ∧ SqAt s.heap b' l' ys ∧ R (.ok (.ret (.ref (made4 s.heap b b' l l').objs.size))) { s with heap := made5 s.heap b b' l l' }) :=
  .of_wp fun prog w A R t ht => by
    obtain ⟨h, g, d, tk, os⟩ := t; obtain ⟨y1, y2, r⟩ := ht
    have sub := sub_zip
    have c1 : SqAt (Shared.heap ⟨h, g, d, tk, os⟩) b l xs := y1
    have c2 : SqAt (Shared.heap ⟨h.push { cls := itCls b, data := .fields #[.ref l, .int 0 0] }, g, d, tk, os⟩) b' l' ys := y2.to fun o e => Heap.get?_push_of_some _ e
    wp_walk using iter_of c1, iter_of c2
    exact ⟨_, rfl, r⟩
section
variable {prog : Program} {w : World} {A : Around} {E : Value → Shared → Prop} {s : Shared} {b b' : Bool} {l l' : Addr} {xs ys : Array Value}
theorem call_zip {Q : Value → Shared → Prop} (y1 : SqAt s.heap b l xs) (y2 : SqAt s.heap b' l' ys)
    (q : ∀ g, IsZip g (s.heap.objs.size + 4) (s.heap.objs.size + 2) (s.heap.objs.size + 3) .none → IsPair g (s.heap.objs.size + 2) (.ref s.heap.objs.size) (.ref (s.heap.objs.size + 1)) → IsPair g (s.heap.objs.size + 3) .none .none →
      ItAt g b s.heap.objs.size l 0 → ItAt g b' (s.heap.objs.size + 1) l' 0 → (∀ c o, s.heap.get? c = some o → g.get? c = some o) → Q (.ref (s.heap.objs.size + 4)) { s with heap := g }) :
    wpAny (model prog w) A (call (.type "zip") [.ref l, .ref l']) Q E s := by
  refine callType_new F.called_zip (by decide) (F.typeCall_zip_2 _ _) (F.newCall_zip_2 _ _) (fun o => F.args_object_init_3 o _ _) F.entry_zip_new (zip_makes b b' l l' xs ys) ⟨y1, y2, ?_⟩
  obtain ⟨n, hn⟩ : ∃ n, n = s.heap.objs.size := ⟨_, rfl⟩
  have n1 : (s.heap.push (itOf b l)).objs.size = n + 1 := by rw [Heap.size_push, hn]
  have n2 : (made2 s.heap b b' l l').objs.size = n + 2 := by unfold made2; rw [Heap.size_push, n1]
  have n3 : (made3 s.heap b b' l l').objs.size = n + 3 := by unfold made3; rw [Heap.size_push, n2]
  have n4 : (made4 s.heap b b' l l').objs.size = n + 4 := by unfold made4; rw [Heap.size_push, n3]
  have a5 : IsZip (made5 s.heap b b' l l') (made4 s.heap b b' l l').objs.size (made2 s.heap b b' l l').objs.size (made3 s.heap b b' l l').objs.size .none := Heap.get?_push_size _ rfl
  have a4 : IsPair (made5 s.heap b b' l l') (made3 s.heap b b' l l').objs.size .none .none := Heap.get?_push_of_some _ (Heap.get?_push_size _ rfl)
  have a3 : IsPair (made5 s.heap b b' l l') (made2 s.heap b b' l l').objs.size (.ref s.heap.objs.size) (.ref (s.heap.push (itOf b l)).objs.size) := Heap.get?_push_of_some _ (Heap.get?_push_of_some _ (Heap.get?_push_size _ rfl))
  have a2 : (made5 s.heap b b' l l').get? (s.heap.push (itOf b l)).objs.size = some (itOf b' l') := Heap.get?_push_of_some _ (Heap.get?_push_of_some _ (Heap.get?_push_of_some _ (Heap.get?_push_size _ rfl)))
  have a1 : (made5 s.heap b b' l l').get? s.heap.objs.size = some (itOf b l) := Heap.get?_push_of_some _ (Heap.get?_push_of_some _ (Heap.get?_push_of_some _ (Heap.get?_push_of_some _ (Heap.get?_push_size _ rfl))))
  rw [n2, n3, n4] at a5
  rw [n3] at a4
  rw [n1, n2, ← hn] at a3
  rw [n1] at a2
  rw [← hn] at a1
  rw [← hn] at q
  show _ ∧ _
  rw [n4]
  exact ⟨⟨_, a5, rfl⟩, q _ a5 a3 a4 (it_new (h := s.heap) a1) (it_new (h := s.heap) a2) fun c o e => Heap.get?_push_of_some _ (Heap.get?_push_of_some _ (Heap.get?_push_of_some _ (Heap.get?_push_of_some _ (Heap.get?_push_of_some _ e))))⟩
end
end Pz
set_option Elab.async false
set_option linter.all false
set_option maxRecDepth 100000
set_option maxHeartbeats 4000000
namespace Pz
open PySem PySem.Spec PyProof.Rows L2
def SqB (K : PySem.W.Frag) (H : Hp) (b : Bool) (a : Addr) (xs : List V) : Prop := match b with
  | true => SqT K H a xs
  | false => SqL K H a xs
theorem SqB.at {X : Cx} {pins : List (Addr × Obj)} {σ : L2.St} {H : Hp} {s : Shared} {b : Bool} {a : Addr} {xs : List V} (I : Inv X pins σ H s) (q : SqB X.K H b a xs) : ∃ its : List Value, Vals xs its ∧ SqAt s.heap b a its.toArray := by
  cases b with
  | true =>
    obtain ⟨its, r, p, _⟩ := I.tuple q
    exact ⟨its, r, p⟩
  | false =>
    obtain ⟨its, r, p, _⟩ := I.list q
    exact ⟨its, r, p.isList⟩
/-- the sequences at a and c, item by item in new pairs -/
def Izs (K : PySem.W.Frag) (b b' : Bool) (a c : Addr) (xs ys : List V) : It :=
  ⟨fun i H => (SqB K H b a xs ∧ SqB K H b' c ys) ∧ i < xs.length ∧ i < ys.length, fun i H v H' => ∃ T x y, v = .ref T ∧ H T = none ∧ H' = upd H T (.tup [x, y]) ∧ xs[i]? = some x ∧ ys[i]? = some y,
    fun i H => (SqB K H b a xs ∧ SqB K H b' c ys) ∧ (xs.length ≤ i ∨ ys.length ≤ i)⟩
def Stz (b b' : Bool) (a c z N O i j : Addr) (k : Nat) (h : Heap) : Prop := IsZip h z N O .none ∧ IsPair h N (.ref i) (.ref j) ∧ (∃ x y, IsPair h O x y) ∧ ItAt h b i a k ∧ ItAt h b' j c k
theorem five {z N O i j c : Addr} {P : Addr → Prop} (h : c ∈ [z, N, O, i, j]) (p1 : P z) (p2 : P N) (p3 : P O) (p4 : P i) (p5 : P j) : P c := by
  rcases List.mem_cons.mp h with y | h
  · rw [y]; exact p1
  · rcases List.mem_cons.mp h with y | h
    · rw [y]; exact p2
    · rcases List.mem_cons.mp h with y | h
      · rw [y]; exact p3
      · rcases List.mem_cons.mp h with y | h
        · rw [y]; exact p4
        · rw [List.mem_singleton.mp h]; exact p5
theorem not5 {z N O i j c : Addr} (h : c ∉ [z, N, O, i, j]) : c ≠ z ∧ c ≠ N ∧ c ≠ O ∧ c ≠ i ∧ c ≠ j := by
  refine ⟨fun y => h ?_, fun y => h ?_, fun y => h ?_, fun y => h ?_, fun y => h ?_⟩ <;> rw [y] <;> simp
theorem turn_zs {P : Program} {w : World} {K : PySem.W.Frag} {elts : List Expr} {kk : Nat} {tpos : Pos} {b b' : Bool} {a c z N O i j : Addr} {xs ys : List V} (D : ZipApart z N O i j a c) :
    Turn P w K (.Tuple elts kk tpos) (Izs K b b' a c xs ys) [z, N, O, i, j] z (Stz b b' a c z N O i j) where
  mem := List.mem_cons_self ..
  obj := fun k h st d hd => by
    obtain ⟨s1, s2, ⟨x, y, s3⟩, s4, s5⟩ := st
    exact five (P := fun d => ∃ o, h.get? d = some o ∧ ∀ v, o.data ≠ .cell v) hd ⟨_, s1, fun v q => nomatch q⟩ ⟨_, s2, fun v q => nomatch q⟩ ⟨_, s3, fun v q => nomatch q⟩ s4.ob s5.ob
  keep := fun k h g st kp => by
    obtain ⟨s1, s2, ⟨x, y, s3⟩, s4, s5⟩ := st
    exact ⟨kp _ (by simp) _ s1, kp _ (by simp) _ s2, ⟨x, y, kp _ (by simp) _ s3⟩, s4.to (kp _ (by simp)), s5.to (kp _ (by simp))⟩
  item := fun X hP hw hK hc k pins s σ H E I hf st go => by
    subst hP hw hK
    obtain ⟨s1, s2, ⟨x0, y0, s3⟩, s4, s5⟩ := st
    obtain ⟨⟨qx, qy⟩, lx, ly⟩ := go
    obtain ⟨us, ru, p1⟩ := qx.at I
    obtain ⟨vs, rv, p2⟩ := qy.at I
    obtain ⟨u, hu, r1⟩ := ru.get (List.getElem?_eq_getElem lx)
    obtain ⟨v, hv, r2⟩ := rv.get (List.getElem?_eq_getElem ly)
    have zl : z < s.heap.objs.size := Heap.lt_size s1
    refine next_item D s1 s2 s3 s4 s5 p1 p2 (u := u) (v := v) (by simpa using hu) (by simpa using hv) fun g z' o' i' j' new _ far => ⟨_, rfl, wpAny_letOwnedTupleGo_zip (s := { s with heap := g }) z' fun g2 z2 sb => ?_⟩
    have new2 : IsPair g2 s.heap.objs.size u v := (sb.2 _ (Nat.ne_of_gt zl)).trans new
    have keep : ∀ d o, d ∉ [z, N, O, i, j] → s.heap.get? d = some o → g2.get? d = some o := fun d o nd e => by
      obtain ⟨n1, _, n3, n4, n5⟩ := not5 nd
      exact (sb.2 _ n1).trans (far d o n1 n3 n4 n5 e)
    have ob : ObjOk X.prog X.w (upd H s.heap.objs.size (.tup [xs[k], ys[k]])) g2 s.heap.objs.size (.tup [xs[k], ys[k]]) := ⟨by show 2 ≤ sizeLine; decide, [u, v], .cons r1 (.cons r2 .nil), ⟨_, new2, rfl, _, rfl⟩⟩
    have J := I.turnedNew (t' := s.toks) (ch := [z, N, O, i, j]) (fun d o nd e => keep d o nd e) hf (Nat.le_refl _) ob
    refine ⟨.ref s.heap.objs.size, _, J, rfl, ⟨_, xs[k], ys[k], rfl, I.hok.fresh (Nat.le_refl _), rfl, List.getElem?_eq_getElem lx, List.getElem?_eq_getElem ly⟩, ⟨z2, (sb.2 _ D.TIz).trans (far _ _ D.TIz D.TITO D.TIi1 D.TIi2 s2), ⟨u, v, (sb.2 _ D.TOz).trans o'⟩, i'.to fun o e => (sb.2 _ D.i1z).trans e, j'.to fun o e => (sb.2 _ D.i2z).trans e⟩, fun d hd => ?_⟩
    have lt : d < s.heap.objs.size := five (P := fun d => d < s.heap.objs.size) hd zl (Heap.lt_size s2) (Heap.lt_size s3) s4.lt s5.lt
    rw [upd_ne (Nat.ne_of_lt lt)]
    exact (hf d hd).1
  done := fun X hP hw hK hc k pins s σ H E I hf st stop => by
    subst hP hw hK
    obtain ⟨s1, s2, ⟨x0, y0, s3⟩, s4, s5⟩ := st
    obtain ⟨⟨qx, qy⟩, over⟩ := stop
    obtain ⟨us, ru, p1⟩ := qx.at I
    obtain ⟨vs, rv, p2⟩ := qy.at I
    have l1 := ru.length
    have l2 := rv.length
    refine next_over (I.ok.hd hc) D s1 s2 s3 s4 s5 p1 p2 ?_ fun g far => ⟨rfl, I.turnedL (t' := s.toks) (ch := [z, N, O, i, j]) (fun d o nd e => ?_) hf⟩
    · rcases over with y | y
      · exact .inl (by simp; omega)
      · exact .inr (by simp; omega)
    · obtain ⟨n1, _, n3, n4, n5⟩ := not5 nd
      exact far d o n1 n3 n4 n5 e
  self := fun A k s Q E st q => wpAny_pyIter_zip st.1 q
def iZipE (K : PySem.W.Frag) (ta : TA) : TI := fun σ H R => ta σ H fun vs H1 => ∃ b b' a c xs ys, vs = [.ref a, .ref c] ∧ SqB K H1 b a xs ∧ SqB K H1 b' c ys ∧ R (Izs K b b' a c xs ys) H1
theorem pi_zipE {X : Cx} {e e2 : Expr} {ta : TA} {p pos tpos : Pos} {elts : List Expr} {kk : Nat} (hg : Gl X "zip") (hm : X.mg "zip" = none) (ha : PA X [e, e2] ta)
    (hs : starEach [e, e2] X.env = (false, eval e X.env) :: starEach [e2] X.env := by rfl) (hpl : (backTo pos (starEach [e2] X.env)).any (·.1) = false := by rfl) :
    PI X (.Tuple elts kk tpos) (.Call (.Name "zip" p) [e, e2] [] pos) (iZipE X.K ta) := ⟨fun pins s σ H R I h => by
  refine Call_ (ld_blt I hg hm PyProof.Rows.boot_zip (PyProof.Rows.callWith_type1 (thn (ha.run pos pins s σ H _ I h) fun us t ⟨vs, H1, J, r, q⟩ => ?_) hs hpl))
  obtain ⟨b, b', a, c, xs, ys, rfl, qx, qy, q⟩ := q
  obtain ⟨u1, u2, rfl, r1, r2⟩ := vals2 r
  cases (show u1 = Value.ref a from r1)
  cases (show u2 = Value.ref c from r2)
  obtain ⟨is1, rv1, p1⟩ := qx.at J
  obtain ⟨is2, rv2, p2⟩ := qy.at J
  refine call_zip p1 p2 fun g z1 n1 o1 i1 j1 kp => wpAny_pyIter_zip z1 ?_
  have J2 : Inv X pins σ H1 { t with heap := g } := J.kept (t' := t.toks) kp
  exact ⟨t.heap.objs.size + 4, [t.heap.objs.size + 4, t.heap.objs.size + 2, t.heap.objs.size + 3, t.heap.objs.size, t.heap.objs.size + 1], _, _, H1, rfl, J2, turn_zs (PySem.W.ktu_apart t.heap.objs.size a c p1.lt p2.lt), ⟨z1, n1, ⟨_, _, o1⟩, i1, j1⟩, fun d hd => by
    have le : t.heap.objs.size ≤ d := five (P := fun d => t.heap.objs.size ≤ d) hd (Nat.le_add_right _ _) (Nat.le_add_right _ _) (Nat.le_add_right _ _) (Nat.le_refl _) (Nat.le_add_right _ _)
    exact J.fpOk le (J.hok.fresh le), q⟩⟩
/-- a loop over a zip of sequences of one length -/
theorem for_zs {K : PySem.W.Frag} {b b' : Bool} {a c : Addr} {xs ys : List V} {g : TG} {tb : TS} {D : Ends} {σ : L2.St} {H : Hp} (hl : xs.length = ys.length) (Pv : Nat → L2.St → Hp → Prop) (h0 : Pv 0 σ H) (hq : ∀ i σ H, Pv i σ H → SqB K H b a xs ∧ SqB K H b' c ys)
    (hs : ∀ (i : Nat) (x y : V) (T : Addr) (σ : L2.St) (H : Hp), xs[i]? = some x → ys[i]? = some y → Pv i σ H → H T = none → g (.ref T) σ (upd H T (.tup [x, y])) fun σ2 H2 => tb { D with nx := Pv (i + 1), ct := Pv (i + 1), bk := D.nx } σ2 H2) (hd : ∀ σ H, Pv xs.length σ H → D.nx σ H) :
    ∃ W : Nat → Nat → L2.St → Hp → Prop, (∃ m, W 0 m σ H) ∧ ∀ i m σ H, W i m σ H →
      ((Izs K b b' a c xs ys).stop i H ∧ D.nx σ H) ∨ ((Izs K b b' a c xs ys).go i H ∧ ∃ N : L2.St → Hp → Prop, (∀ σ' H', N σ' H' → ∃ m', m' < m ∧ W (i + 1) m' σ' H') ∧ ∀ v H', (Izs K b b' a c xs ys).yld i H v H' → g v σ H' fun σ2 H2 => tb { D with nx := N, ct := N, bk := D.nx } σ2 H2) := by
  refine ⟨fun i m σ H => m + i = xs.length ∧ Pv i σ H, ⟨xs.length, rfl, h0⟩, fun i m σ H ⟨e, pv⟩ => ?_⟩
  match m, e with
  | 0, e =>
    have e' : i = xs.length := by omega
    rw [e'] at pv ⊢
    exact .inl ⟨⟨hq _ _ _ pv, .inl (Nat.le_refl _)⟩, hd _ _ pv⟩
  | m + 1, e =>
    refine .inr ⟨⟨hq _ _ _ pv, by omega, by omega⟩, Pv (i + 1), fun σ' H' p => ⟨m, Nat.lt_succ_self m, by omega, p⟩, fun v H' y => ?_⟩
    obtain ⟨T, x, y, rfl, hT, rfl, hx, hy⟩ := y
    exact hs i x y T σ H hx hy pv hT
end Pz
set_option Elab.async false
set_option linter.all false
set_option maxRecDepth 100000
/-! stretches of whole numbers as lists; rows reached turn by turn -/
namespace Chn
def irn (lo : Int) (n : Nat) : List Int := (List.range n).map fun i => lo + (i : Nat)
def ir (lo hi : Int) : List Int := irn lo (hi + 1 - lo).toNat
theorem irn_succ (lo : Int) (n : Nat) : irn lo (n + 1) = irn lo n ++ [lo + (n : Nat)] := by
  unfold irn
  rw [List.range_succ, List.map_append]
  rfl
theorem irn_len (lo : Int) (n : Nat) : (irn lo n).length = n := by
  unfold irn
  rw [List.length_map, List.length_range]
theorem mem_irn {lo x : Int} {n : Nat} : x ∈ irn lo n ↔ lo ≤ x ∧ x < lo + n := by
  unfold irn
  rw [List.mem_map]
  constructor
  · rintro ⟨i, hi, rfl⟩
    have := List.mem_range.mp hi
    omega
  · rintro ⟨h1, h2⟩
    exact ⟨(x - lo).toNat, List.mem_range.mpr (by omega), by omega⟩
theorem mem_ir {lo hi x : Int} : x ∈ ir lo hi ↔ lo ≤ x ∧ x ≤ hi := by
  unfold ir
  rw [mem_irn]
  omega
theorem ir_nil {lo hi : Int} (h : hi < lo) : ir lo hi = [] := by
  unfold ir
  rw [show (hi + 1 - lo).toNat = 0 by omega]
  rfl
theorem ir_snoc {lo hi : Int} (h : lo ≤ hi + 1) : ir lo (hi + 1) = ir lo hi ++ [hi + 1] := by
  unfold ir
  rw [show (hi + 1 + 1 - lo).toNat = (hi + 1 - lo).toNat + 1 by omega, irn_succ]
  congr 2
  omega
theorem irn_ir (lo : Int) (n : Nat) : irn lo n = ir lo (lo + n - 1) := by
  unfold ir
  congr 1
  omega
theorem sorted_irn (lo : Int) : ∀ n, (irn lo n).Pairwise (· < ·)
  | 0 => .nil
  | n + 1 => by
    rw [irn_succ]
    refine List.pairwise_append.mpr ⟨sorted_irn lo n, List.pairwise_singleton _ _, fun a ha b hb => ?_⟩
    rw [List.mem_singleton] at hb
    have := mem_irn.mp ha
    omega
/-- ascending lists with the same members are one -/
theorem asc_eq : ∀ {l m : List Int}, l.Pairwise (· < ·) → m.Pairwise (· < ·) → (∀ x, x ∈ l ↔ x ∈ m) → l = m
  | [], [], _, _, _ => rfl
  | [], y :: m, _, _, h => by have := (h y).mpr (List.mem_cons_self ..); cases this
  | x :: l, [], _, _, h => by have := (h x).mp (List.mem_cons_self ..); cases this
  | x :: l, y :: m, hl, hm, h => by
    have l2 := List.pairwise_cons.mp hl
    have m2 := List.pairwise_cons.mp hm
    have e : x = y := by
      have a := (h x).mp (List.mem_cons_self ..)
      have b := (h y).mpr (List.mem_cons_self ..)
      rcases List.mem_cons.mp a with a | a
      · exact a
      · rcases List.mem_cons.mp b with b | b
        · exact b.symm
        · have := m2.1 x a
          have := l2.1 y b
          omega
    subst e
    congr 1
    refine asc_eq l2.2 m2.2 fun z => ⟨fun q => ?_, fun q => ?_⟩
    · rcases List.mem_cons.mp ((h z).mp (List.mem_cons_of_mem _ q)) with e | e
      · have := l2.1 z q
        omega
      · exact e
    · rcases List.mem_cons.mp ((h z).mpr (List.mem_cons_of_mem _ q)) with e | e
      · have := m2.1 z q
        omega
      · exact e
theorem asc_ir {l : List Int} {lo hi : Int} (h : l.Pairwise (· < ·)) (k : ∀ x, x ∈ l ↔ lo ≤ x ∧ x ≤ hi) : l = ir lo hi := asc_eq h (sorted_irn _ _) fun x => by rw [k x, mem_ir]
theorem asc_filter {l : List Int} (p : Int → Bool) (h : l.Pairwise (· < ·)) : (l.filter p).Pairwise (· < ·) := h.sublist List.filter_sublist
theorem ir_ge (a b low : Int) : (ir a b).filter (fun x => decide (low ≤ x)) = ir (max a low) b := asc_ir (asc_filter _ (sorted_irn _ _)) fun x => by
  rw [List.mem_filter, mem_ir]
  constructor
  · rintro ⟨h1, h2⟩
    have := of_decide_eq_true h2
    omega
  · intro h
    exact ⟨by omega, decide_eq_true (by omega)⟩
theorem ir_le (a b st : Int) : (ir a b).filter (fun x => decide (x ≤ st)) = ir a (min b st) := asc_ir (asc_filter _ (sorted_irn _ _)) fun x => by
  rw [List.mem_filter, mem_ir]
  constructor
  · rintro ⟨h1, h2⟩
    have := of_decide_eq_true h2
    omega
  · intro h
    exact ⟨by omega, decide_eq_true (by omega)⟩
theorem ir_gt (a b st : Int) : (ir a b).filter (fun x => decide (st < x)) = ir (max a (st + 1)) b := asc_ir (asc_filter _ (sorted_irn _ _)) fun x => by
  rw [List.mem_filter, mem_ir]
  constructor
  · rintro ⟨h1, h2⟩
    have := of_decide_eq_true h2
    omega
  · intro h
    exact ⟨by omega, decide_eq_true (by omega)⟩
/-- a permutation in order of an ascending list is that list -/
theorem sort_asc {l m : List Int} (h : m.Perm l) (s : m.Pairwise (· ≤ ·)) (k : l.Pairwise (· < ·)) : m = l := by
  have nd : m.Nodup := h.nodup_iff.mpr (k.imp fun h e => by omega)
  refine asc_eq ?_ k fun x => h.mem_iff
  exact List.Pairwise.imp₂ (fun a b h1 h2 => by omega) s nd
/-- the greatest stamp that a row can have, turn by turn, the ones ahead being no later than st -/
def hiAt (s2 p st : Int) : Nat → Int
  | 0 => s2
  | t + 1 => min (hiAt s2 p st t) st + p
end Chn
set_option Elab.async false
set_option linter.all false
set_option maxRecDepth 100000
/-! how many rows by a stamp: the counts met -/
namespace Chn
def cntLe (st : Int) (xs : List Int) : Nat := (xs.filter fun x => decide (x ≤ st)).length
def loLe (st : Int) (L : List (Int × Int)) : Nat := (L.filter fun s => decide (s.1 ≤ st)).length
def hiLe (st : Int) (L : List (Int × Int)) : Nat := (L.filter fun s => decide (s.2 ≤ st)).length
theorem In.full : ∀ {L : List (Int × Int)} {xs : List Int}, In L xs → Full L
  | [], [], _ => fun y hy => by cases hy
  | [], _ :: _, h => h.elim
  | _ :: _, [], h => h.elim
  | y :: r, x :: xs, h => fun z hz => by
    obtain ⟨⟨a, b⟩, c⟩ := h
    rcases List.mem_cons.mp hz with e | e
    · rw [e]
      omega
    · exact In.full c z e
theorem In.cnt {st : Int} : ∀ {L : List (Int × Int)} {xs : List Int}, In L xs → hiLe st L ≤ cntLe st xs ∧ cntLe st xs ≤ loLe st L
  | [], [], _ => ⟨Nat.le_refl 0, Nat.le_refl 0⟩
  | [], _ :: _, h => h.elim
  | _ :: _, [], h => h.elim
  | y :: r, x :: xs, h => by
    obtain ⟨⟨a, b⟩, c⟩ := h
    obtain ⟨i1, i2⟩ := In.cnt (st := st) c
    unfold hiLe cntLe loLe at *
    rw [List.filter_cons, List.filter_cons, List.filter_cons]
    by_cases h1 : y.2 ≤ st
    · rw [if_pos (decide_eq_true h1), if_pos (decide_eq_true (show x ≤ st by omega)), if_pos (decide_eq_true (show y.1 ≤ st by omega))]
      rw [List.length_cons, List.length_cons, List.length_cons]
      omega
    · rw [if_neg (by simpa using h1)]
      by_cases h2 : x ≤ st
      · rw [if_pos (decide_eq_true h2), if_pos (decide_eq_true (show y.1 ≤ st by omega))]
        rw [List.length_cons, List.length_cons]
        omega
      · rw [if_neg (by simpa using h2)]
        split
        · rw [List.length_cons]
          omega
        · omega
theorem Cnt.le {st : Int} : ∀ {c : Nat} {xs : List Int}, Cnt st c xs → cntLe st xs = c
  | 0, xs, h => by
    unfold cntLe
    rw [List.length_eq_zero_iff, List.filter_eq_nil_iff]
    intro x hx z
    have := h x hx
    have := of_decide_eq_true z
    omega
  | c + 1, [], h => h.elim
  | c + 1, x :: xs, h => by
    have ih := Cnt.le h.2
    unfold cntLe at ih ⊢
    rw [List.filter_cons, if_pos (decide_eq_true h.1), List.length_cons, ih]
/-- stretches that rise -/
def Up : List (Int × Int) → Prop
  | [] => True
  | y :: r => (∀ z ∈ r, y.1 < z.1 ∧ y.2 < z.2) ∧ Up r
theorem up_of {g p : Int} (h1 : 1 ≤ g) : ∀ {ws : List Win} {s t : Int × Int} {L : List (Int × Int)}, Sol g p s ws (L.map (·.1)) → Sol g p t ws (L.map (·.2)) → Up L
  | _, _, _, [], _, _ => trivial
  | [], _, _, _ :: _, h, _ => h.elim
  | w :: ws, s, t, y :: r, h, k => by
    refine ⟨fun z hz => ⟨?_, ?_⟩, up_of h1 h.2.2 k.2.2⟩
    · exact sol_tail h1 h z.1 (List.mem_map.mpr ⟨z, hz, rfl⟩)
    · exact sol_tail h1 k z.2 (List.mem_map.mpr ⟨z, hz, rfl⟩)
theorem none_le {st : Int} {y : Int × Int} {r : List (Int × Int)} (h : ∀ z ∈ r, y.1 < z.1 ∧ y.2 < z.2) (k : ¬ y.1 ≤ st) : loLe st r = 0 := by
  unfold loLe
  rw [List.length_eq_zero_iff, List.filter_eq_nil_iff]
  intro z hz q
  have := h z hz
  have := of_decide_eq_true q
  omega
theorem none_hi {st : Int} {y : Int × Int} {r : List (Int × Int)} (h : ∀ z ∈ r, y.1 < z.1 ∧ y.2 < z.2) (k : ¬ y.2 ≤ st) : hiLe st r = 0 := by
  unfold hiLe
  rw [List.length_eq_zero_iff, List.filter_eq_nil_iff]
  intro z hz q
  have := h z hz
  have := of_decide_eq_true q
  omega
theorem can_of {st : Int} : ∀ {L : List (Int × Int)} {c : Nat}, Up L → hiLe st L ≤ c → c ≤ loLe st L → Can st c L
  | [], 0, _, _, _ => trivial
  | [], c + 1, _, _, h => by
    have : loLe st [] = 0 := rfl
    omega
  | y :: r, 0, u, h, _ => by
    show st < y.2
    apply Classical.byContradiction
    intro k
    unfold hiLe at h
    rw [List.filter_cons, if_pos (decide_eq_true (show y.2 ≤ st by omega)), List.length_cons] at h
    omega
  | y :: r, c + 1, u, h, k => by
    have lo : y.1 ≤ st := by
      apply Classical.byContradiction
      intro z
      have e := none_le u.1 z
      unfold loLe at k e
      rw [List.filter_cons, if_neg (by simpa using z), e] at k
      omega
    have hr : hiLe st r ≤ c := by
      by_cases z : y.2 ≤ st
      · unfold hiLe at h ⊢
        rw [List.filter_cons, if_pos (decide_eq_true z), List.length_cons] at h
        omega
      · rw [none_hi u.1 z]
        omega
    have kr : c ≤ loLe st r := by
      unfold loLe at k ⊢
      rw [List.filter_cons, if_pos (decide_eq_true lo), List.length_cons] at k
      omega
    have ih := can_of u.2 hr kr
    cases c with
    | zero => exact ⟨lo, ih⟩
    | succ c => exact ⟨lo, ih⟩
/-- the counts of rows at a stamp or ahead: just those from fewest to most -/
theorem counts_met {g p st : Int} (h1 : 1 ≤ g) (hg : g ≤ p) {ws : List Win} {s : Int × Int} {c : Nat} : (∃ xs, Sol g p s ws xs ∧ cntLe st xs = c) ↔ Full (bck g p (fwd g p s ws)) ∧ hiLe st (bck g p (fwd g p s ws)) ≤ c ∧ c ≤ loLe st (bck g p (fwd g p s ws)) := by
  constructor
  · rintro ⟨xs, hx, rfl⟩
    have i := sol_in hx
    exact ⟨i.full, i.cnt⟩
  · rintro ⟨f, a, b⟩
    obtain ⟨e1, e2⟩ := sol_ends hg f
    obtain ⟨xs, hx, hc, _⟩ := sol_count h1 hg f (can_of (up_of h1 e1 e2) a b)
    exact ⟨xs, hx, hc.le⟩
/-- there are stamps just where no stretch is empty -/
theorem sol_iff {g p : Int} (hg : g ≤ p) {ws : List Win} {s : Int × Int} : (∃ xs, Sol g p s ws xs) ↔ Full (bck g p (fwd g p s ws)) :=
  ⟨fun ⟨_, hx⟩ => (sol_in hx).full, fun f => ⟨_, (sol_ends hg f).1⟩⟩
end Chn
set_option Elab.async false
set_option linter.all false
namespace Chn
theorem loLe_cons {st : Int} {y : Int × Int} {r : List (Int × Int)} : loLe st (y :: r) = if y.1 ≤ st then loLe st r + 1 else loLe st r := by
  unfold loLe
  rw [List.filter_cons]
  by_cases h : y.1 ≤ st
  · rw [if_pos (decide_eq_true h), if_pos h, List.length_cons]
  · rw [if_neg (by simpa using h), if_neg h]
theorem hiLe_cons {st : Int} {y : Int × Int} {r : List (Int × Int)} : hiLe st (y :: r) = if y.2 ≤ st then hiLe st r + 1 else hiLe st r := by
  unfold hiLe
  rw [List.filter_cons]
  by_cases h : y.2 ≤ st
  · rw [if_pos (decide_eq_true h), if_pos h, List.length_cons]
  · rw [if_neg (by simpa using h), if_neg h]
theorem hi_iff {st : Int} : ∀ {L : List (Int × Int)} {n : Nat}, Up L → n < L.length → (hiLe st L ≤ n ↔ st < (L.getD n (0, 0)).2)
  | [], n, _, h => absurd h (Nat.not_lt_zero _)
  | y :: r, 0, u, _ => by
    rw [hiLe_cons]
    show _ ↔ st < y.2
    by_cases h : y.2 ≤ st
    · rw [if_pos h]; omega
    · rw [if_neg h, none_hi u.1 h]; omega
  | y :: r, n + 1, u, hn => by
    have hn' : n < r.length := by rw [List.length_cons] at hn; omega
    have ih := hi_iff (st := st) u.2 hn'
    have e : (y :: r).getD (n + 1) (0, 0) = r.getD n (0, 0) := by simp [List.getD]
    rw [hiLe_cons, e]
    by_cases h : y.2 ≤ st
    · rw [if_pos h, ← ih]; omega
    · rw [if_neg h, none_hi u.1 h]
      have hm : r.getD n (0, 0) ∈ r := by
        rw [List.getD_eq_getElem?_getD, List.getElem?_eq_getElem hn']
        exact List.getElem_mem hn'
      have := (u.1 _ hm).2
      constructor
      · intro _; omega
      · intro _; omega
theorem lo_iff {st : Int} : ∀ {L : List (Int × Int)} {n : Nat}, Up L → n < L.length → (n + 1 ≤ loLe st L ↔ (L.getD n (0, 0)).1 ≤ st)
  | [], n, _, h => absurd h (Nat.not_lt_zero _)
  | y :: r, 0, u, _ => by
    rw [loLe_cons]
    show _ ↔ y.1 ≤ st
    by_cases h : y.1 ≤ st
    · rw [if_pos h]; omega
    · rw [if_neg h, none_le u.1 h]; omega
  | y :: r, n + 1, u, hn => by
    have hn' : n < r.length := by rw [List.length_cons] at hn; omega
    have ih := lo_iff (st := st) u.2 hn'
    have e : (y :: r).getD (n + 1) (0, 0) = r.getD n (0, 0) := by simp [List.getD]
    rw [loLe_cons, e]
    by_cases h : y.1 ≤ st
    · rw [if_pos h, ← ih]; omega
    · rw [if_neg h, none_le u.1 h]
      have hm : r.getD n (0, 0) ∈ r := by
        rw [List.getD_eq_getElem?_getD, List.getElem?_eq_getElem hn']
        exact List.getElem_mem hn'
      have := (u.1 _ hm).1
      constructor
      · intro _; omega
      · intro _; omega
theorem hiLe_len {st : Int} (L : List (Int × Int)) : hiLe st L ≤ L.length := List.length_filter_le ..
/-- stamps of a chain are small -/
theorem sol_small {g p : Int} (h0 : 0 ≤ g) (hp : 0 ≤ p) : ∀ {ws : List Win} {s : Int × Int} {xs : List Int}, 0 ≤ s.1 → Sol g p s ws xs → ∀ x ∈ xs, 0 ≤ x ∧ x ≤ s.2 + p * (ws.length - 1 : Int)
  | [], _, [], _, _, x, hx => by cases hx
  | [], _, _ :: _, _, h, _, _ => h.elim
  | _ :: _, _, [], _, _, x, hx => by cases hx
  | w :: ws, s, y :: ys, hs, h, x, hx => by
    have e : ((w :: ws).length : Int) - 1 = (ws.length : Int) := by rw [List.length_cons]; omega
    rw [e]
    have z : 0 ≤ p * (ws.length : Int) := Int.mul_nonneg hp (by omega)
    rcases List.mem_cons.mp hx with q | q
    · subst q
      have := h.1
      omega
    · have ih := sol_small h0 hp (s := (y + g, y + p)) (by show 0 ≤ y + g; have := h.1; omega) h.2.2 x q
      have m : p * ((ws.length : Int) - 1) = p * (ws.length : Int) - p := by rw [Int.mul_sub, Int.mul_one]
      rw [m] at ih
      have := h.1
      omega
/-- the counts by a stamp, ascending -/
def manyL (g p st : Int) (s : Int × Int) (ws : List Win) (f : Bool) : List Int := if f = true then ir (hiLe st (bck g p (fwd g p s ws))) (loLe st (bck g p (fwd g p s ws))) else []
theorem lines_full {g p : Int} (h1 : 1 ≤ g) (hg : g ≤ p) {s : Int × Int} {ws : List Win} (f : Full (bck g p (fwd g p s ws))) : Up (bck g p (fwd g p s ws)) := up_of h1 (sol_ends hg f).1 (sol_ends hg f).2
theorem hi_lo {g p st : Int} (h1 : 1 ≤ g) (hg : g ≤ p) {s : Int × Int} {ws : List Win} (f : Full (bck g p (fwd g p s ws))) : hiLe st (bck g p (fwd g p s ws)) ≤ loLe st (bck g p (fwd g p s ws)) := by
  have i := (sol_in (sol_ends hg f).1).cnt (st := st)
  omega
end Chn
set_option Elab.async false
set_option linter.all false
set_option maxRecDepth 100000
set_option maxHeartbeats 4000000
namespace K04
open PySem PySem.Spec PyProof.Rows L2 GxR Pu Evl
theorem scStamps : FnScope ["chain", "stretches"] ["chain"] (defScope sStamps) := ⟨rfl, rfl, rfl, by decide +kernel, rfl, by decide +kernel, by decide +kernel⟩
theorem scLeastOf : FnScope ["stretches", "low", "high"] ["stretches"] (defScope sLeastOf) := ⟨rfl, rfl, rfl, by decide +kernel, rfl, by decide +kernel, by decide +kernel⟩
theorem scLeastChain : FnScope ["chain"] ["chain"] (defScope sLeastChain) := ⟨rfl, rfl, rfl, by decide +kernel, rfl, by decide +kernel, by decide +kernel⟩
theorem scLatestChain : FnScope ["chain", "stretches", "low", "high"] ["chain"] (defScope sLatestChain) := ⟨rfl, rfl, rfl, by decide +kernel, rfl, by decide +kernel, by decide +kernel⟩
theorem scThrough : FnScope ["chain", "row", "stamp", "gap", "pause", "begin", "windows", "pinned"] ["chain", "row", "stamp"] (defScope sChainThrough) := ⟨rfl, rfl, rfl, by decide +kernel, rfl, by decide +kernel, by decide +kernel⟩
def spStm (K : PySem.W.Frag) (T : Addr) : Sp := fun vs H Q _ => ∃ (c : Ch) (v : V), vs = [v] ∧ c.Ok ∧ ChE K H c v ∧ TabG H T ∧ (¬ Chn.Full c.bck → ∀ H', ExT T H H' → Q .non H') ∧
  (Chn.Full c.bck → ∀ q ys H', H q = none → ExT T H H' → H' q = some (.tup ys) → StrT H' c.bck ys → Q (.ref q) H')
def intsOf (pr : Int × Int → Int) (L : List (Int × Int)) : List V := L.map fun s => V.int (pr s)
def spInts (K : PySem.W.Frag) (T : Addr) (pr : Int × Int → Int) : Sp := fun vs H Q _ => ∃ (c : Ch) (v : V), vs = [v] ∧ c.Ok ∧ ChE K H c v ∧ TabG H T ∧ (¬ Chn.Full c.bck → ∀ H', ExT T H H' → Q .non H') ∧
  (Chn.Full c.bck → ∀ q H', H q = none → ExT T H H' → H' q = some (.tup (intsOf pr c.bck)) → Q (.ref q) H')
def spLeast : Sp := fun vs H Q _ => ∃ v, vs = [v] ∧ ((v = .non ∧ ∀ H', Ex H H' → Q .non H') ∨ ∃ p ys L, v = .ref p ∧ H p = some (.lst ys) ∧ StrT H L ys ∧ L.length ≤ 40000 ∧ ∀ q H', H q = none → Ex H H' → H' q = some (.tup (intsOf (·.1) L)) → Q (.ref q) H')
section
variable {P : Program} {w : World} {K : PySem.W.Frag} {mg : Str → Option Value} {base : Heap} {T : Addr}
variable {fInt fNum fNN fSO fCk fFi fWi fLO fPar fSeq : Addr} {dInt dNum dNN dSO dCk dFi dWi dLO dPar dSeq : FuncData}
theorem bck_len' (c : Ch) : c.bck.length = c.ws.length := by
  unfold Ch.bck
  rw [Chn.bck_len, c.fwd_len]
/-- [low for low, high in L], or high -/
theorem lc_proj {L : List (Int × Int)} {ys : List V} {σ : L2.St} {H : Hp} {i j j2 kk : Nat} {pr : Int × Int → Int} {p : Addr} {Q : VK} (hi : σ[i]? = some (some (.ref p))) (hj : j < σ.length) (hj2 : j2 < σ.length) (ne : j ≠ j2) (hP : H p = some (.lst ys)) (hS : StrT H L ys) (hz : L.length ≤ 40000)
    (hk : (kk = j ∧ pr = (·.1)) ∨ (kk = j2 ∧ pr = (·.2))) (k : ∀ D H', H D = none → Ex H H' → H' D = some (.lst (intsOf pr L)) → Q (.ref D) H') :
    tLc (iSeq K (tVar i)) (gSeq K 2 (gCons (gName j) (gCons (gName j2) gNil))) tYes (tVar kk) [j, j2] σ H Q := by
  have hyl : L.length = ys.length := Paired.length hS
  refine ⟨.ref p, hi, p, ys, rfl, .inr (SqL.of hP), fun J Gd wk hG D hD => ?_⟩
  refine lc_gen wk (fun m H' acc => acc = intsOf pr (L.take m)) (by omega) hD (fun m H xs ys acc h r => r) rfl hG ?_ ?_
  · intro m x Ha Hb acc hi2 ex y hR Qy Qn hy hn
    obtain ⟨rfl, hx⟩ := y
    obtain ⟨s1, hsL, b, rfl, hb⟩ := Paired.at hS hx
    have tk : L.take (m + 1) = L.take m ++ [s1] := by rw [List.take_add_one, hsL]; rfl
    have l0 : (wipe σ [j, j2]).length = σ.length := by
      show ((σ.set j2 none).set j none).length = _
      rw [List.length_set, List.length_set]
    have ak : (((wipe σ [j, j2]).set j (some (.int s1.1))).set j2 (some (.int s1.2)))[kk]? = some (some (.int (pr s1))) := by
      rcases hk with ⟨rfl, rfl⟩ | ⟨rfl, rfl⟩
      · rw [List.getElem?_set_ne ne.symm]
        exact List.getElem?_set_self (by rw [l0]; exact hj)
      · exact List.getElem?_set_self (by rw [List.length_set, l0]; exact hj2)
    refine ⟨b, _, rfl, .inl (SqT.of (ex _ _ hb)), rfl, _, _, rfl, _, _, rfl, rfl, wipe2 ne, yes_then ⟨_, ak, hy _ _ (Ex.refl _) ?_⟩⟩
    rw [tk, hR]
    unfold intsOf
    rw [List.map_append]
    rfl
  · intro H4 acc e4 hD4 hR
    rw [← hyl, List.take_length] at hR
    exact k D H4 hD e4 (by rw [hD4, hR])
theorem one_cb {r : List V → Hp → VK → Prop} {te : TE} {σ : L2.St} {H : Hp} {Q : VK} (h : te σ H fun x H1 => r [x] H1 Q) : tCB r (tCons te tNil) σ H Q := h
theorem ok_least_of {f : Addr} {fd : FuncData} (G : Mg mg) (F : Fun K "least_of" "least_of" sLeastOf f fd) : FnOk P w K mg base CX0 1 f fd ["stretches"] spLeast := by
  refine F.ok scLeastOf (fun vs H Q E h => ?_) (fun cdv A outer s H vs Q E hr h => ?_)
  · obtain ⟨v, rfl, _⟩ := h
    rfl
  · obtain ⟨v, rfl, h⟩ := h
    refine ⟨_, pss_one (ps_ret (pe_ifExp (pt_cmp (pc_isN (pv 0))) pe_non (pe_callTy call_tuple_of (by rfl) G.tuple (by decide +kernel) (pa_cons
      (pe_lc (own := [("low", 1), ("high", 2)]) (g := gSeq K 2 (gCons (gName 1) (gCons (gName 2) gNil))) (te := tVar 1) (by rfl) scLeastOf.nd (pi_seq (pv 0))
          (blkOk_by (own := [("low", 1), ("high", 2)]) (N := ["stretches", "low", "high"]) (sc := defScope sLeastOf) (by decide +kernel))
          (fun _ _ _ _ _ => pg_seq rfl (pgs_cons (pg_name (i := 1) scLeastOf.nd rfl (.inl rfl)) (pgs_cons (pg_name (i := 2) scLeastOf.nd rfl (.inl rfl)) pgs_nil))) (fun _ _ _ _ _ => pts_nil) (fun _ _ _ _ _ => pv 1)) pa_nil)))), ?_⟩
    rcases h with ⟨rfl, k⟩ | ⟨p, ys, L, rfl, hP, hS, hz, k⟩
    · exact ⟨.non, rfl, _, rfl, ite2 (fun _ => k H (Ex.refl H)) fun z => absurd rfl z⟩
    · refine ⟨.ref p, rfl, _, rfl, ite2 (fun z => nomatch z) fun _ => ?_⟩
      refine one_cb (lc_proj (i := 0) (j := 1) (j2 := 2) (kk := 1) (σ := [some (.ref p), none, none]) rfl (show 1 < 3 by decide) (show 2 < 3 by decide) (by decide) hP hS hz (.inl ⟨rfl, rfl⟩) fun D H1 hD e1 h1 => ?_)
      exact ⟨D, _, rfl, .inl ⟨SqL.of h1, fun q hq => k q _ (fresh_back e1 hq) (e1.trans (Ex.new hq)) upd_same⟩⟩
theorem ok_stamps {f : Addr} {fd : FuncData} (G : Mg mg) (F : Fun K "stamps" "stamps" sStamps f fd) (F1 : Fns K mg "check_chain" ["value"] sCheckChain fCk dCk) (G1 : FnOk P w K mg base CX0 8 fCk dCk ["value"] (spChk K T)) (F2 : Fns K mg "stretches_of" ["chain"] sStretchesOf fSO dSO) (G2 : FnOk P w K mg base CX0 3 fSO dSO ["chain"] spStr) : FnOk P w K mg base CX0 9 f fd ["chain"] (spStm K T) := by
  refine F.ok scStamps (fun vs H Q E h => ?_) (fun cdv A outer s H vs Q E hr h => ?_)
  · obtain ⟨c, v, rfl, _⟩ := h
    rfl
  · obtain ⟨c, v, rfl, ok, hc, ht, kn, kk⟩ := h
    refine ⟨_, pss_cons (ps_set (i := 1) scStamps.nd rfl (.inl rfl) (pe_call G2 (hr.mono (by decide)) (by rfl) F2.mg F2.fn.kp F2.bd .nil pass0 (pa_cons (pe_call G1 hr (by rfl) F1.mg F1.fn.kp F1.bd .nil pass0 (pa_cons (pv 0) pa_nil)) pa_nil)))
      (pss_one (ps_ret (pe_ifExp (pt_cmp (pc_isN (pv 1))) pe_non (pe_callTy call_tuple_of (by rfl) G.tuple (by decide +kernel) (pa_cons (pv 1) pa_nil))))), ?_⟩
    refine ⟨_, rfl, c, v, rfl, ok, hc, ht, fun q H1 hq e1 hc1 => ⟨c, .ref q, rfl, ok.wl, hc1, fun nf H2 e2 => ?_, fun fu p ys H2 hp e2 h2 hS => ?_⟩⟩
    · exact ⟨.non, rfl, _, rfl, ite2 (fun _ => kn nf H2 (e1.ex e2)) fun z => absurd rfl z⟩
    · refine ⟨.ref p, rfl, _, rfl, ite2 (fun z => nomatch z) fun _ => ⟨_, rfl, p, ys, rfl, .inl ⟨SqL.of h2, fun r hr4 => ?_⟩⟩⟩
      exact kk fu r ys _ (ExT.fresh ht e1 (fresh_back e2 hr4)) (e1.ex (e2.trans (Ex.new hr4))) upd_same (hS.ex (Ex.new hr4))
theorem ok_least_chain {f : Addr} {fd : FuncData} (F : Fun K "least_chain" "least_chain" sLeastChain f fd) (F1 : Fns K mg "check_chain" ["value"] sCheckChain fCk dCk) (G1 : FnOk P w K mg base CX0 8 fCk dCk ["value"] (spChk K T)) (F2 : Fns K mg "stretches_of" ["chain"] sStretchesOf fSO dSO) (G2 : FnOk P w K mg base CX0 3 fSO dSO ["chain"] spStr)
    (F3 : Fns K mg "least_of" ["stretches"] sLeastOf fLO dLO) (G3 : FnOk P w K mg base CX0 1 fLO dLO ["stretches"] spLeast) : FnOk P w K mg base CX0 9 f fd ["chain"] (spInts K T (·.1)) := by
  refine F.ok scLeastChain (fun vs H Q E h => ?_) (fun cdv A outer s H vs Q E hr h => ?_)
  · obtain ⟨c, v, rfl, _⟩ := h
    rfl
  · obtain ⟨c, v, rfl, ok, hc, ht, kn, kk⟩ := h
    refine ⟨_, pss_one (ps_ret (pe_call G3 (hr.mono (by decide)) (by rfl) F3.mg F3.fn.kp F3.bd .nil pass0 (pa_cons (pe_call G2 (hr.mono (by decide)) (by rfl) F2.mg F2.fn.kp F2.bd .nil pass0 (pa_cons (pe_call G1 hr (by rfl) F1.mg F1.fn.kp F1.bd .nil pass0 (pa_cons (pv 0) pa_nil)) pa_nil)) pa_nil))), ?_⟩
    refine ⟨_, rfl, c, v, rfl, ok, hc, ht, fun q H1 hq e1 hc1 => ⟨c, .ref q, rfl, ok.wl, hc1, fun nf H2 e2 => ?_, fun fu p ys H2 hp e2 h2 hS => ?_⟩⟩
    · exact ⟨.non, rfl, .inl ⟨rfl, fun H3 e3 => kn nf H3 (e1.ex (e2.trans e3))⟩⟩
    · exact ⟨.ref p, rfl, .inr ⟨p, ys, c.bck, rfl, h2, hS, by rw [bck_len']; have := ok.wl; omega, fun r H3 hr3 e3 h3 => kk fu r H3 (ExT.fresh ht e1 (fresh_back e2 hr3)) (e1.ex (e2.trans e3)) h3⟩⟩
theorem ok_latest_chain {f : Addr} {fd : FuncData} (G : Mg mg) (F : Fun K "latest_chain" "latest_chain" sLatestChain f fd) (F1 : Fns K mg "check_chain" ["value"] sCheckChain fCk dCk) (G1 : FnOk P w K mg base CX0 8 fCk dCk ["value"] (spChk K T)) (F2 : Fns K mg "stretches_of" ["chain"] sStretchesOf fSO dSO) (G2 : FnOk P w K mg base CX0 3 fSO dSO ["chain"] spStr) : FnOk P w K mg base CX0 9 f fd ["chain"] (spInts K T (·.2)) := by
  refine F.ok scLatestChain (fun vs H Q E h => ?_) (fun cdv A outer s H vs Q E hr h => ?_)
  · obtain ⟨c, v, rfl, _⟩ := h
    rfl
  · obtain ⟨c, v, rfl, ok, hc, ht, kn, kk⟩ := h
    refine ⟨_, pss_cons (ps_set (i := 1) scLatestChain.nd rfl (.inl rfl) (pe_call G2 (hr.mono (by decide)) (by rfl) F2.mg F2.fn.kp F2.bd .nil pass0 (pa_cons (pe_call G1 hr (by rfl) F1.mg F1.fn.kp F1.bd .nil pass0 (pa_cons (pv 0) pa_nil)) pa_nil)))
      (pss_one (ps_ret (pe_ifExp (pt_cmp (pc_isN (pv 1))) pe_non (pe_callTy call_tuple_of (by rfl) G.tuple (by decide +kernel) (pa_cons
      (pe_lc (own := [("low", 2), ("high", 3)]) (g := gSeq K 2 (gCons (gName 2) (gCons (gName 3) gNil))) (te := tVar 3) (by rfl) scLatestChain.nd (pi_seq (pv 1))
          (blkOk_by (own := [("low", 2), ("high", 3)]) (N := ["chain", "stretches", "low", "high"]) (sc := defScope sLatestChain) (by decide +kernel))
          (fun _ _ _ _ _ => pg_seq rfl (pgs_cons (pg_name (i := 2) scLatestChain.nd rfl (.inl rfl)) (pgs_cons (pg_name (i := 3) scLatestChain.nd rfl (.inl rfl)) pgs_nil))) (fun _ _ _ _ _ => pts_nil) (fun _ _ _ _ _ => pv 3)) pa_nil))))), ?_⟩
    refine ⟨_, rfl, c, v, rfl, ok, hc, ht, fun q H1 hq e1 hc1 => ⟨c, .ref q, rfl, ok.wl, hc1, fun nf H2 e2 => ?_, fun fu p ys H2 hp e2 h2 hS => ?_⟩⟩
    · exact ⟨.non, rfl, _, rfl, ite2 (fun _ => kn nf H2 (e1.ex e2)) fun z => absurd rfl z⟩
    · refine ⟨.ref p, rfl, _, rfl, ite2 (fun z => nomatch z) fun _ => ?_⟩
      refine one_cb (lc_proj (i := 1) (j := 2) (j2 := 3) (kk := 3) (σ := [some v, some (.ref p), none, none]) rfl (show 2 < 4 by decide) (show 3 < 4 by decide) (by decide) h2 hS (by rw [bck_len']; have := ok.wl; omega) (.inr ⟨rfl, rfl⟩) fun D H3 hD e3 h3 => ?_)
      exact ⟨D, _, rfl, .inl ⟨SqL.of h3, fun r hr4 => kk fu r _ (ExT.fresh ht e1 (fresh_back (e2.trans e3) hr4)) (e1.ex ((e2.trans e3).trans (Ex.new hr4))) upd_same⟩⟩
end
end K04
set_option Elab.async false
set_option linter.all false
set_option maxRecDepth 100000
set_option maxHeartbeats 4000000
namespace K04
open PySem PySem.Spec PyProof.Rows L2 GxR Pu Evl
theorem scHolds : FnScope ["chain", "value", "gap", "pause", "begin", "windows", "ahead", "stamp", "low", "high", "least", "greatest"] ["chain", "value"] (defScope sChainHolds) := ⟨rfl, rfl, rfl, by decide +kernel, rfl, by decide +kernel, by decide +kernel⟩
/-- the window of a row that has this stamp -/
def pinW (st : Nat) (w : Nat × Option Nat) : Nat × Option Nat := (max st w.1, some (match w.2 with
  | none => st
  | some h => min st h))
def Ch.pin (c : Ch) (row st : Nat) : Ch := { c with ws := c.ws.set row (pinW st (c.ws.getD row (0, none))) }
theorem pin_cut (st : Nat) (w : Nat × Option Nat) : Chn.cut ((st : Int), (st : Int)) (winI w) = (((pinW st w).1 : Int), match (pinW st w).2 with | none => 0 | some h => (h : Int)) := by
  obtain ⟨lo, o⟩ := w
  unfold Chn.cut winI pinW
  cases o with
  | none => exact Prod.ext (by show max (st : Int) (lo : Int) = ((max st lo : Nat) : Int); omega) rfl
  | some h => exact Prod.ext (by show max (st : Int) (lo : Int) = ((max st lo : Nat) : Int); omega) (by show min (st : Int) (h : Int) = ((min st h : Nat) : Int); omega)
def spThrough (K : PySem.W.Frag) (T : Addr) : Sp := fun vs H Q _ => ∃ (c : Ch) (v : V) (row st : Nat), vs = [v, .int row, .int st] ∧ c.Ok ∧ ChE K H c v ∧ TabG H T ∧ row < c.ws.length ∧ (¬ Chn.Full (c.pin row st).bck → ∀ H', ExT T H H' → Q .non H') ∧
  (Chn.Full (c.pin row st).bck → ∀ q H', H q = none → ExT T H H' → H' q = some (.tup (intsOf (·.1) (c.pin row st).bck)) → Q (.ref q) H')
/-- what a list of stamps can hold -/
inductive Cl
  | int (i : Int)
  | non
  | bl (b : Bool)
def Cl.v : Cl → V
  | .int i => .int i
  | .non => .non
  | .bl b => .bl b
/-- are these stamps of rows with such windows -/
def hold (g p : Int) : Option Int → List Chn.Win → List Cl → Bool
  | _, [], [] => true
  | b, w :: ws, .int x :: zs => decide (0 ≤ x) && (decide ((Chn.cut (Chn.first g p b) w).1 ≤ x) && (decide (x ≤ (Chn.cut (Chn.first g p b) w).2) && hold g p (some x) ws zs))
  | _, _, _ => false
/-- any value that is asked, and whether it holds -/
def HoldB (K : PySem.W.Frag) (H : Hp) (c : Ch) (x : V) (b : Bool) : Prop := ((∃ t, (∀ g, TyG g x t) ∧ isSeq t = false) ∧ b = false) ∨ ∃ q zs, x = .ref q ∧ SqE K H q (zs.map Cl.v) ∧ zs.length ≤ 40000 ∧ b = hold c.g c.p (c.b.map fun n => (n : Int)) (c.ws.map winI) zs
def spHolds (K : PySem.W.Frag) (T : Addr) : Sp := fun vs H Q _ => ∃ (c : Ch) (v x : V) (b : Bool), vs = [v, x] ∧ c.Ok ∧ ChE K H c v ∧ TabG H T ∧ HoldB K H c x b ∧ ∀ H', ExT T H H' → Q (.bl b) H'
section
variable {P : Program} {w : World} {K : PySem.W.Frag} {mg : Str → Option Value} {base : Heap} {T : Addr}
variable {fInt fNum fNN fSO fCk fFi fWi fLO fPar fSeq : Addr} {dInt dNum dNN dSO dCk dFi dWi dLO dPar dSeq : FuncData}
theorem Paired.app2 {α β : Type} {F : α → β → Prop} : ∀ {l : List α} {m : List β}, Paired F l m → ∀ n, Paired F (l.take n) (m.take n) ∧ Paired F (l.drop n) (m.drop n)
  | _, _, .nil, n => ⟨by simpa using .nil, by simpa using .nil⟩
  | _, _, .cons r t, 0 => ⟨.nil, .cons r t⟩
  | _, _, .cons r t, n + 1 => ⟨.cons r (Paired.app2 t n).1, (Paired.app2 t n).2⟩
theorem ok_through {f : Addr} {fd : FuncData} (M : L2.Mod K mg base) (G : Mg mg) (F : Fun K "chain_through" "chain_through" sChainThrough f fd) (F1 : Fns K mg "check_chain" ["value"] sCheckChain fCk dCk) (G1 : FnOk P w K mg base CX0 8 fCk dCk ["value"] (spChk K T)) (F2 : Fns K mg "stretches_of" ["chain"] sStretchesOf fSO dSO) (G2 : FnOk P w K mg base CX0 3 fSO dSO ["chain"] spStr)
    (F3 : Fns K mg "least_of" ["stretches"] sLeastOf fLO dLO) (G3 : FnOk P w K mg base CX0 1 fLO dLO ["stretches"] spLeast) (F4 : Fns K mg "is_number" ["value"] sIsNumber fNum dNum) (F5 : Fns K mg "is_integer" ["value"] sIsInteger fInt dInt)
    (F6 : Fns K mg "need_number" ["value"] sNeedNumber fNN dNN) (G6 : FnOk P w K mg base CX0 3 fNN dNN ["value"] (spV pNat)) (F7 : Fns K mg "within" ["stretch", "window"] sWithin fWi dWi) : FnOk P w K mg base CX0 9 f fd ["chain", "row", "stamp"] (spThrough K T) := by
  have G4 : FnOk P w K mg base CX0 2 fNum dNum ["value"] (spPure P w base ["value"] pNumber) := (pf_is_number M G F4.fn F5.fn F5.bd F5.mg).ok
  have G7 : FnOk P w K mg base CX0 1 fWi dWi ["stretch", "window"] (spT pWithin) := ok_within G F7.fn
  refine F.ok scThrough (fun vs H Q E h => ?_) (fun cdv A outer s H vs Q E hr h => ?_)
  · obtain ⟨c, v, row, st, rfl, _⟩ := h
    rfl
  · obtain ⟨c, v, row, st, rfl, ok, hc, ht, hrow, kn, kk⟩ := h
    refine ⟨_, pss_cons (ps_asg (pe_call G1 hr (by rfl) F1.mg F1.fn.kp F1.bd .nil pass0 (pa_cons (pv 0) pa_nil)) (pg_tup rfl (pgs_cons (pg_name (i := 3) scThrough.nd rfl (.inl rfl)) (pgs_cons (pg_name (i := 4) scThrough.nd rfl (.inl rfl)) (pgs_cons (pg_name (i := 5) scThrough.nd rfl (.inl rfl)) (pgs_cons (pg_name (i := 6) scThrough.nd rfl (.inl rfl)) pgs_nil))))))
      (pss_cons (ps_if (PW.pt (pw_or (pt_not (pt_val (pe_call G4 (hr.mono (by decide)) (by rfl) F4.mg F4.fn.kp F4.bd .nil pass0 (pa_cons (pv 1) pa_nil)))) (pw_or1 (pt_cmpR op_ge (pv 1) (pe_callB call_len (by rfl) G.len boot_len (pa_cons (pv 6) pa_nil)) (nomark _))))) pss_never pss_nil)
      (pss_cons (ps_expr (pe_call G6 (hr.mono (by decide)) (by rfl) F6.mg F6.fn.kp F6.bd .nil pass0 (pa_cons (pv 2) pa_nil)))
      (pss_cons (ps_set (i := 7) scThrough.nd rfl (.inl rfl) (pe_call G7 (hr.mono (by decide)) (by rfl) F7.mg F7.fn.kp F7.bd .nil pass0 (pa_cons (pe_tup (pa_cons (pv 2) (pa_cons (pv 2) pa_nil))) (pa_cons (pe_ix ix_tup (pv 6) (pv 1) (fun _ _ => rfl)) pa_nil))))
      (pss_one (ps_ret (pe_call G3 (hr.mono (by decide)) (by rfl) F3.mg F3.fn.kp F3.bd .nil pass0 (pa_cons (pe_call G2 (hr.mono (by decide)) (by rfl) F2.mg F2.fn.kp F2.bd .nil pass0 (pa_cons (pe_tup (pa_cons (pv 3) (pa_cons (pv 4) (pa_cons (pv 5) (pa_cons (pe_tup
        (StX.pa_star (pe_slice sl_tup (pv 6) po_none (po_some (pv 1))) (pa_cons (pv 7) (StX.pa_star (pe_slice sl_tup (pv 6) (po_some (pe_op op_add (pv 1) pe_int)) po_none) pa_nil)))) pa_nil))))) pa_nil)) pa_nil))))))), ?_⟩
    refine ⟨_, rfl, c, v, rfl, ok, hc, ht, fun q H1 hq e1 hc1 => ?_⟩
    obtain ⟨a, e, xs, ea, ha, he, hw⟩ := hc1
    cases ea
    have hxl : c.ws.length = xs.length := Paired.length hw
    have wl := ok.wl
    refine ⟨q, _, rfl, SqT.of ha, rfl, _, _, rfl, _, _, rfl, _, _, rfl, _, _, rfl, rfl, ?_⟩
    have t1 : EvT (tNot (tB (tCall (spPure P w base ["value"] pNumber) [] E0 (tCons (tVar 1) tNil)))) ([some v, some (.int row), some (.int st), some (.int c.g), some (.int c.p), some (nonV c.b), some (.ref e), none] : L2.St) H1 (!true) :=
      et_not (et_B (ev_call (ea_cons (ev_var rfl) ea_nil) (spPure.use rfl fun H1 _ h _ _ => ⟨.int row, "int", rfl, .int _, by rw [isNum_nat row]⟩)))
    refine q_ifOrF t1 fun H2 e2 => ?_
    refine ⟨_, rfl, .ref e, rfl, .ref e, xs.length, rfl, .inr ⟨xs, SqT.of (e2 _ _ he), rfl⟩, row, xs.length, rfl, rfl, _, rfl, ite2 (fun z => absurd (of_decide_eq_true z) (by omega)) fun _ => ?_⟩
    refine q_drop (v := .non) (ev_call (ea_cons (ev_var rfl) ea_nil) (spV.use fun H3 _ => ⟨st, rfl, by omega, rfl⟩)) fun H3 e3 => ?_
    obtain ⟨y, hy, b, rfl, hb⟩ := Paired.at2 hw (List.getElem?_eq_getElem hrow)
    obtain ⟨w1, hw1⟩ : ∃ w1, w1 = c.ws[row] := ⟨_, rfl⟩
    rw [← hw1] at hb
    have gd : c.ws.getD row (0, none) = w1 := by rw [List.getD_eq_getElem?_getD, List.getElem?_eq_getElem hrow, hw1]; rfl
    have e23 := e2.trans e3
    refine ⟨_, rfl, _, rfl, by show 2 ≤ sizeLine; decide, fun q2 hq2 => ?_⟩
    have e4 := Ex.new hq2 (o := .tup [V.int st, .int st])
    refine ⟨.ref e, rfl, .int row, rfl, e, xs, row, .ref b, rfl, rfl, SqT.of ((e23.trans e4) _ _ he), atI_nat hy, _, ⟨q2, b, ((st : Int), (st : Int)), winI w1, rfl, upd_same, ?_, rfl⟩, fun q3 H5 hq3 e5 h5 => ?_⟩
    · have := (e23.trans e4) _ _ hb
      rw [nonV_eq] at this
      exact this
    have ex5 := e23.trans (e4.trans e5)
    have he5 := ex5 _ _ he
    have hw5 := hw.ex ex5
    rw [pin_cut] at h5
    have cut1 : cutV xs none (some (row : Int)) = xs.take row := by
      unfold cutV
      rw [HT.sIx_none, HT.sIx_nat, List.drop_zero, Nat.sub_zero, Nat.min_eq_left (by omega)]
    have cut2 : cutV xs (some ((row : Int) + 1)) none = xs.drop (row + 1) := by
      unfold cutV
      rw [HT.sIx_none, show (row : Int) + 1 = ((row + 1 : Nat) : Int) by omega, HT.sIx_nat, Nat.min_eq_left (by omega), List.take_of_length_le (by rw [List.length_drop]; exact Nat.le_refl _)]
    refine ⟨_, rfl, _, rfl, _, rfl, .ref e, rfl, .int row, rfl, row, rfl, e, xs, rfl, SqT.of he5, ?_, fun p1 hp1 => ?_⟩
    · rw [HT.sIx_none, HT.sIx_nat]
      rintro ⟨_, z⟩
      rw [Nat.min_eq_left (by omega)] at z
      omega
    rw [cut1]
    have e6 := Ex.new hp1 (o := .tup (xs.take row))
    refine ⟨p1, xs.take row, rfl, .inl (SqT.of upd_same), .ref q3, rfl, .ref e, rfl, .int row, rfl, row, 1, rfl, rfl, _, rfl, e, xs, rfl, SqT.of (e6 _ _ he5), ?_, fun p2 hp2 => ?_⟩
    · rw [HT.sIx_none, show (row : Int) + 1 = ((row + 1 : Nat) : Int) by omega, HT.sIx_nat]
      rintro ⟨z, _⟩
      rw [Nat.min_eq_left (by omega)] at z
      omega
    rw [cut2]
    have e7 := Ex.new hp2 (o := .tup (xs.drop (row + 1)))
    refine ⟨p2, xs.drop (row + 1), rfl, .inl (SqT.of upd_same), ?_, fun q4 hq4 => ?_⟩
    · show (xs.take row ++ (V.ref q3 :: (xs.drop (row + 1) ++ []))).length ≤ sizeLine
      rw [List.append_nil, List.length_append, List.length_take, List.length_cons, List.length_drop, sizeLine_eq]
      omega
    have eL : xs.take row ++ (V.ref q3 :: (xs.drop (row + 1) ++ [])) = xs.set row (.ref q3) := by
      rw [List.append_nil, List.set_eq_take_append_cons_drop, if_pos (by omega)]
    rw [eL]
    have e8 := Ex.new hq4 (o := .tup (xs.set row (.ref q3)))
    refine ⟨by show 4 ≤ sizeLine; decide, fun q5 hq5 => ?_⟩
    have e9 := Ex.new hq5 (o := .tup [V.int c.g, V.int c.p, nonV c.b, .ref q4])
    have e69 := e6.trans (e7.trans (e8.trans e9))
    have hW : WsT (upd (upd (upd (upd H5 p1 (.tup (xs.take row))) p2 (.tup (xs.drop (row + 1)))) q4 (.tup (xs.set row (.ref q3)))) q5 (.tup [V.int c.g, V.int c.p, nonV c.b, .ref q4])) (c.pin row st).ws (xs.set row (.ref q3)) := by
      show WsT _ (c.ws.set row (pinW st (c.ws.getD row (0, none)))) _
      rw [gd]
      refine Paired.set ⟨q3, rfl, e69 _ _ ?_⟩ row (hw5.ex e69)
      rw [h5]
      obtain ⟨lo, o⟩ := w1
      rfl
    have hcp : ChT (upd (upd (upd (upd H5 p1 (.tup (xs.take row))) p2 (.tup (xs.drop (row + 1)))) q4 (.tup (xs.set row (.ref q3)))) q5 (.tup [V.int c.g, V.int c.p, nonV c.b, .ref q4])) (c.pin row st) (.ref q5) := ⟨q5, q4, _, rfl, upd_same, e9 _ _ upd_same, hW⟩
    have ex9 : ExT T H _ := e1.ex (ex5.trans e69)
    refine ⟨c.pin row st, .ref q5, rfl, by show (c.ws.set row _).length ≤ 200; rw [List.length_set]; exact wl, hcp, fun nf H6 e10 => ?_, fun fu p ys H6 hp e10 h6 hS => ?_⟩
    · exact ⟨.non, rfl, .inl ⟨rfl, fun H7 e11 => kn nf H7 (ex9.ex (e10.trans e11))⟩⟩
    · refine ⟨.ref p, rfl, .inr ⟨p, ys, _, rfl, h6, hS, ?_, fun r H7 hr7 e11 h7 => kk fu r H7 (ExT.fresh ht e1 (fresh_back ((ex5.trans e69).trans e10) hr7)) (ex9.ex (e10.trans e11)) h7⟩⟩
      rw [bck_len']
      show (c.ws.set row _).length ≤ 40000
      rw [List.length_set]
      omega
end
end K04
set_option Elab.async false
set_option linter.all false
set_option maxRecDepth 100000
set_option maxHeartbeats 4000000
namespace K04
open PySem PySem.Spec PyProof.Rows L2 GxR Pu Evl
theorem hold_cons {g p : Int} {b : Option Int} {w : Chn.Win} {ws : List Chn.Win} {x : Int} {zs : List Cl} : hold g p b (w :: ws) (.int x :: zs) = (decide (0 ≤ x) && (decide ((Chn.cut (Chn.first g p b) w).1 ≤ x) && (decide (x ≤ (Chn.cut (Chn.first g p b) w).2) && hold g p (some x) ws zs))) := rfl
theorem cl_ty (z : Cl) (g : Heap) : ∃ t, TyG g z.v t := by
  cases z with
  | int i => exact ⟨_, .int i⟩
  | non => exact ⟨_, .non⟩
  | bl b => exact ⟨_, .bl b⟩
section
variable {P : Program} {w : World} {K : PySem.W.Frag} {mg : Str → Option Value} {base : Heap} {T : Addr}
variable {fInt fNum fNN fSO fCk fFi fWi fLO fPar fSeq : Addr} {dInt dNum dNN dSO dCk dFi dWi dLO dPar dSeq : FuncData}
theorem sqb_of {H : Hp} {q : Addr} {xs : List V} (h : SqE K H q xs) : ∃ b, Pz.SqB K H b q xs := h.elim (fun h => ⟨true, h⟩) fun h => ⟨false, h⟩
theorem et_chainI {ta tb tc : TE} {σ : L2.St} {H : Hp} {i j k : Int} (ha : Ev ta σ H (.int i)) (hb : Ev tb σ H (.int j)) (hc : Ev tc σ H (.int k)) :
    EvT (tTest (tChain (rI0 fun i j => .bl (decide (i ≤ j))) (rI0 fun i j => .bl (decide (i ≤ j))) ta tb tc)) σ H (decide (i ≤ j) && decide (j ≤ k)) := fun H1 e Q q =>
  ha H1 e _ fun H2 e2 => hb H2 (e.trans e2) _ fun H3 e3 => ⟨i, j, rfl, rfl, _, rfl, ite2 (fun z => hc H3 ((e.trans e2).trans e3) _ fun H4 e4 => ⟨j, k, rfl, rfl, _, rfl, by
    have := q H4 ((e2.trans e3).trans e4)
    rw [z, Bool.true_and] at this
    exact this⟩) fun z => ⟨_, rfl, by
    have := q H3 (e2.trans e3)
    rw [Bool.not_eq_true] at z
    rw [z, Bool.false_and] at this
    exact this⟩⟩
theorem ok_holds {f : Addr} {fd : FuncData} (M : L2.Mod K mg base) (G : Mg mg) (hz : mg "zip" = none) (F : Fun K "chain_holds" "chain_holds" sChainHolds f fd) (F1 : Fns K mg "check_chain" ["value"] sCheckChain fCk dCk) (G1 : FnOk P w K mg base CX0 8 fCk dCk ["value"] (spChk K T))
    (F2 : Fns K mg "is_of_parts" ["value", "many"] sIsOfParts fPar dPar) (F3 : Fns K mg "is_sequence" ["value"] sIsSequence fSeq dSeq) (F4 : Fns K mg "is_number" ["value"] sIsNumber fNum dNum) (F5 : Fns K mg "is_integer" ["value"] sIsInteger fInt dInt)
    (F6 : Fns K mg "first_steps" ["gap", "pause", "begin"] sFirstSteps fFi dFi) (F7 : Fns K mg "within" ["stretch", "window"] sWithin fWi dWi) : FnOk P w K mg base CX0 9 f fd ["chain", "value"] (spHolds K T) := by
  have G2 : FnOk P w K mg base CX0 2 fPar dPar ["value", "many"] (spPure P w base ["value", "many"] pOfParts) := (pf_is_of_parts M G F2.fn F3.fn F3.bd F3.mg).ok
  have G4 : FnOk P w K mg base CX0 2 fNum dNum ["value"] (spPure P w base ["value"] pNumber) := (pf_is_number M G F4.fn F5.fn F5.bd F5.mg).ok
  have G6 : FnOk P w K mg base CX0 1 fFi dFi ["gap", "pause", "begin"] (spT pFirstS) := ok_first F6.fn
  have G7 : FnOk P w K mg base CX0 1 fWi dWi ["stretch", "window"] (spT pWithin) := ok_within G F7.fn
  refine F.ok scHolds (fun vs H Q E h => ?_) (fun cdv A outer s H vs Q E hr h => ?_)
  · obtain ⟨c, v, x, b, rfl, _⟩ := h
    rfl
  · obtain ⟨c, v, x, b, rfl, ok, hc, ht, hb, kk⟩ := h
    refine ⟨_, pss_cons (ps_asg (pe_call G1 hr (by rfl) F1.mg F1.fn.kp F1.bd .nil pass0 (pa_cons (pv 0) pa_nil)) (pg_tup rfl (pgs_cons (pg_name (i := 2) scHolds.nd rfl (.inl rfl)) (pgs_cons (pg_name (i := 3) scHolds.nd rfl (.inl rfl)) (pgs_cons (pg_name (i := 4) scHolds.nd rfl (.inl rfl)) (pgs_cons (pg_name (i := 5) scHolds.nd rfl (.inl rfl)) pgs_nil))))))
      (pss_cons (ps_if (pt_not (pt_val (pe_call G2 (hr.mono (by decide)) (by rfl) F2.mg F2.fn.kp F2.bd .nil pass0 (pa_cons (pv 1) (pa_cons (pe_callB call_len (by rfl) G.len boot_len (pa_cons (pv 5) pa_nil)) pa_nil))))) (pss_one (ps_ret pe_bl)) pss_nil)
      (pss_cons (ps_set (i := 6) scHolds.nd rfl (.inl rfl) (pv 4))
      (pss_cons (ps_for PassesOwn.never rfl (Pz.pi_zipE (by rfl) hz (pa_cons (pv 1) (pa_cons (pv 5) pa_nil))) (pg_tup rfl (pgs_cons (pg_name (i := 7) scHolds.nd rfl (.inl rfl)) (pgs_cons (pg_tup rfl (pgs_cons (pg_name (i := 8) scHolds.nd rfl (.inl rfl)) (pgs_cons (pg_name (i := 9) scHolds.nd rfl (.inl rfl)) pgs_nil))) pgs_nil)))
        (pss_cons (ps_if (pt_not (pt_val (pe_call G4 (hr.mono (by decide)) (by rfl) F4.mg F4.fn.kp F4.bd .nil pass0 (pa_cons (pv 7) pa_nil)))) (pss_one (ps_ret pe_bl)) pss_nil)
        (pss_cons (ps_asg (pe_call G7 (hr.mono (by decide)) (by rfl) F7.mg F7.fn.kp F7.bd .nil pass0 (pa_cons (pe_call G6 (hr.mono (by decide)) (by rfl) F6.mg F6.fn.kp F6.bd .nil pass0 (pa_cons (pv 2) (pa_cons (pv 3) (pa_cons (pv 6) pa_nil)))) (pa_cons (pe_tup (pa_cons (pv 8) (pa_cons (pv 9) pa_nil))) pa_nil)))
            (pg_tup rfl (pgs_cons (pg_name (i := 10) scHolds.nd rfl (.inl rfl)) (pgs_cons (pg_name (i := 11) scHolds.nd rfl (.inl rfl)) pgs_nil))))
        (pss_cons (ps_if (pt_not (pt_chain op_le op_le (pv 10) (pv 7) (pv 11))) (pss_one (ps_ret pe_bl)) pss_nil)
        (pss_one (ps_set (i := 6) scHolds.nd rfl (.inl rfl) (pv 7)))))))
      (pss_one (ps_ret pe_bl))))), ?_⟩
    refine ⟨_, rfl, c, v, rfl, ok, hc, ht, fun q H1 hq e1 hc1 => ?_⟩
    obtain ⟨a, e, xs, ea, ha, he, hw⟩ := hc1
    cases ea
    have hxl : c.ws.length = xs.length := Paired.length hw
    have wl := ok.wl
    refine ⟨q, _, rfl, SqT.of ha, rfl, _, _, rfl, _, _, rfl, _, _, rfl, _, _, rfl, rfl, ?_⟩
    have lenW : ∀ H', Ex H1 H' → Ev (tCB (fun ys H Q => ∃ x n, ys = [x] ∧ LenV K x H n ∧ Q (.int n) H) (tCons (tVar 5) tNil)) ([some v, some x, some (.int c.g), some (.int c.p), some (nonV c.b), some (.ref e), none, none, none, none, none, none] : L2.St) H' (.int (xs.length : Nat)) := fun H' e' =>
      ev_cb (Evl.ea_cons (ev_var rfl) Evl.ea_nil) fun H2 e2 Q k => ⟨_, _, rfl, .inr ⟨xs, ex_t e2 (SqT.of (e' _ _ he)), rfl⟩, k H2 (Ex.refl H2)⟩
    rcases hb with ⟨⟨t, ty, hs⟩, rfl⟩ | ⟨qv, zs, rfl, hsq, hzl, rfl⟩
    · refine q_when (b := !false) (et_not (et_B (ev_call (ea_cons (ev_var rfl) (ea_cons (lenW H1 (Ex.refl H1)) ea_nil)) (spPure.use rfl fun H2 _ h _ _ => ⟨x, none, _, rfl, .no (ty h) hs, rfl⟩)))) (fun _ H2 e2 => ?_) fun z => nomatch z
      exact kk H2 (e1.ex e2)
    · have hsq1 := hsq.exT ht e1
      have par : EvT (tNot (tB (tCall (spPure P w base ["value", "many"] pOfParts) [] E0 (tCons (tVar 1) (tCons (tCB (fun ys H Q => ∃ x n, ys = [x] ∧ LenV K x H n ∧ Q (.int n) H) (tCons (tVar 5) tNil)) tNil))))) ([some v, some (.ref qv), some (.int c.g), some (.int c.p), some (nonV c.b), some (.ref e), none, none, none, none, none, none] : L2.St) H1 (!decide ((zs.length : Int) = (xs.length : Nat))) :=
        et_not (et_B (ev_call (ea_cons (ev_var rfl) (ea_cons (lenW H1 (Ex.refl H1)) ea_nil)) (spPure.use rfl fun H2 e2 h ok bx => by
          obtain ⟨bb, its, rv, sq⟩ := TyG.of_sq ok (M.kin.keeps bx) (hsq1.ex e2)
          have hl := rv.length
          rw [List.length_map] at hl
          exact ⟨.ref qv, some its.length, _, rfl, .seq sq, by rw [hl]⟩)))
      refine q_when par (fun z H2 e2 => ?_) fun z H2 e2 => ?_
      · have ne : zs.length ≠ xs.length := fun y => by rw [y] at z; simp at z
        have h0 : hold c.g c.p (c.b.map fun n => (n : Int)) (c.ws.map winI) zs = false := by
          have key : ∀ (ws : List Chn.Win) (zs : List Cl) (b : Option Int), zs.length ≠ ws.length → hold c.g c.p b ws zs = false := by
            intro ws
            induction ws with
            | nil =>
              intro zs b h
              cases zs with
              | nil => exact absurd rfl h
              | cons _ _ => rfl
            | cons w ws ih =>
              intro zs b h
              cases zs with
              | nil => rfl
              | cons z zs =>
                cases z with
                | int x => rw [hold_cons, ih zs (some x) (fun y => h (by rw [List.length_cons, List.length_cons, y]))]; simp
                | non => rfl
                | bl _ => rfl
          exact key _ _ _ (by rw [List.length_map, hxl]; exact ne)
        rw [h0] at kk
        exact kk H2 (e1.ex e2)
      · have eq : zs.length = xs.length := by simp at z; omega
        obtain ⟨bb, hB⟩ := sqb_of (hsq1.ex e2)
        refine ⟨nonV c.b, rfl, ?_⟩
        refine ⟨_, rfl, _, rfl, bb, true, qv, e, zs.map Cl.v, xs, rfl, hB, SqT.of (e2 _ _ he), Pz.for_zs (by rw [List.length_map, eq]) (fun i σ' H' => ∃ (ah : Option Int) (y7 y8 y9 y10 y11 : Option V), σ' = [some v, some (.ref qv), some (.int c.g), some (.int c.p), some (nonV c.b), some (.ref e), some (nonI ah), y7, y8, y9, y10, y11] ∧ Ex H2 H' ∧
          hold c.g c.p (c.b.map fun n => (n : Int)) (c.ws.map winI) zs = hold c.g c.p ah ((c.ws.map winI).drop i) (zs.drop i)) ⟨c.b.map fun n => (n : Int), none, none, none, none, none, by rw [nonV_eq]; rfl, Ex.refl H2, rfl⟩ (fun i σ' H' p1 => ?_) (fun i x y T' σ' H' hx hy p1 hT => ?_) fun σ' H' p1 => ?_⟩
        · obtain ⟨_, _, _, _, _, _, _, ex, _⟩ := p1
          refine ⟨?_, SqT.of ((e2.trans ex) _ _ he)⟩
          cases bb with
          | true => exact ex_t ex hB
          | false => exact ex_l ex hB
        · obtain ⟨ah, y7, y8, y9, y10, y11, rfl, ex, hold1⟩ := p1
          obtain ⟨w1, hwL, b, rfl, hb⟩ := Paired.at hw hy
          have hi : i < zs.length := by
            have := (List.getElem?_eq_some_iff.mp hx).1
            rwa [List.length_map] at this
          have hzx : x = zs[i].v := by
            rw [List.getElem?_map, List.getElem?_eq_getElem hi] at hx
            exact (Option.some.inj hx).symm
          subst hzx
          have eT := Ex.new hT (o := .tup [zs[i].v, .ref b])
          have hb3 := (e2.trans (ex.trans eT)) _ _ hb
          refine ⟨T', _, rfl, SqT.of upd_same, rfl, _, _, rfl, _, _, rfl, ⟨b, _, rfl, SqT.of hb3, rfl, _, _, rfl, _, _, rfl, rfl, rfl, ?_⟩⟩
          have dw : (c.ws.map winI).drop i = winI w1 :: (c.ws.map winI).drop (i + 1) := by
            have hiw : i < (c.ws.map winI).length := by rw [List.length_map]; exact (List.getElem?_eq_some_iff.mp hwL).1
            rw [List.drop_eq_getElem_cons hiw, List.getElem_map]
            rw [List.getElem?_eq_getElem (by rw [List.length_map] at hiw; exact hiw)] at hwL
            rw [Option.some.inj hwL]
          have dz : zs.drop i = zs[i] :: zs.drop (i + 1) := List.drop_eq_getElem_cons hi
          rw [dw, dz] at hold1
          have exT := ex.trans eT
          refine q_when (b := !isNum zs[i].v) (et_not (et_B (ev_call (ea_cons (ev_var rfl) ea_nil) (spPure.use rfl fun H3 _ h _ _ => by
            obtain ⟨t, ty⟩ := cl_ty zs[i] h
            exact ⟨_, t, rfl, ty, rfl⟩)))) (fun z H3 e3 => ?_) fun z H3 e3 => ?_
          · have h0 : hold c.g c.p ah (winI w1 :: (c.ws.map winI).drop (i + 1)) (zs[i] :: zs.drop (i + 1)) = false := by
              cases hzi : zs[i] with
              | int x =>
                rw [hzi] at z
                have : ¬ (0 ≤ x) := fun y => by
                  have : isNum (Cl.v (.int x)) = true := decide_eq_true (show x ≥ 0 from y)
                  rw [this] at z
                  cases z
                rw [hold_cons, decide_eq_false this]
                rfl
              | non => rfl
              | bl _ => rfl
            rw [hold1, h0] at kk
            exact kk H3 (e1.ex (e2.trans (exT.trans e3)))
          · obtain ⟨x, hzi, hx0⟩ : ∃ x, zs[i] = .int x ∧ 0 ≤ x := by
              cases hzi : zs[i] with
              | int x =>
                rw [hzi] at z
                refine ⟨x, rfl, ?_⟩
                have : isNum (Cl.v (.int x)) = true := by
                  cases q : isNum (Cl.v (.int x)) with
                  | true => rfl
                  | false => rw [q] at z; cases z
                exact of_decide_eq_true this
              | non => rw [hzi] at z; cases z
              | bl _ => rw [hzi] at z; cases z
            rw [hzi] at hold1 ⊢
            obtain ⟨s, hs⟩ : ∃ s, s = Chn.first c.g c.p ah := ⟨_, rfl⟩
            refine ⟨_, rfl, _, rfl, _, rfl, _, ⟨c.g, c.p, ah, rfl, rfl⟩, fun q5 H5 hq5 e5 h5 => ?_⟩
            rw [← hs] at h5
            refine ⟨.int w1.1, rfl, nonV w1.2, rfl, by show 2 ≤ sizeLine; decide, fun q6 hq6 => ?_⟩
            have e6 := Ex.new hq6 (o := .tup [V.int w1.1, nonV w1.2])
            refine ⟨_, ⟨q5, q6, s, winI w1, rfl, e6 _ _ h5, by rw [upd_same, nonV_eq]; rfl, rfl⟩, fun q7 H7 hq7 e7 h7 => ?_⟩
            obtain ⟨y, hy⟩ : ∃ y, y = Chn.cut s (winI w1) := ⟨_, rfl⟩
            rw [← hy] at h7
            refine ⟨q7, _, rfl, SqT.of h7, rfl, _, _, rfl, _, _, rfl, rfl, ?_⟩
            have e37 := e3.trans (e5.trans (e6.trans e7))
            have hc2 : hold c.g c.p ah (winI w1 :: (c.ws.map winI).drop (i + 1)) (.int x :: zs.drop (i + 1)) = ((decide (y.1 ≤ x) && decide (x ≤ y.2)) && hold c.g c.p (some x) ((c.ws.map winI).drop (i + 1)) (zs.drop (i + 1))) := by
              rw [hold_cons, ← hs, ← hy, decide_eq_true hx0, Bool.true_and, Bool.and_assoc]
            refine q_when (et_not (et_chainI (ev_var rfl) (ev_var rfl) (ev_var rfl))) (fun z H8 e8 => ?_) fun z H8 e8 => ?_
            · have z2 : (decide (y.1 ≤ x) && decide (x ≤ y.2)) = false := by
                cases q : (decide (y.1 ≤ x) && decide (x ≤ y.2)) with
                | false => rfl
                | true => rw [q] at z; cases z
              rw [hold1, hc2, z2, Bool.false_and] at kk
              exact kk H8 (e1.ex (e2.trans (exT.trans (e37.trans e8))))
            · have z2 : (decide (y.1 ≤ x) && decide (x ≤ y.2)) = true := by
                cases q : (decide (y.1 ≤ x) && decide (x ≤ y.2)) with
                | true => rfl
                | false => rw [q] at z; cases z
              refine ⟨.int x, rfl, some x, _, _, _, _, _, rfl, exT.trans (e37.trans e8), ?_⟩
              rw [hold1, hc2, z2, Bool.true_and]
        · obtain ⟨ah, y7, y8, y9, y10, y11, rfl, ex, hold1⟩ := p1
          have n1 : (c.ws.map winI).drop (zs.map Cl.v).length = [] := List.drop_eq_nil_of_le (by rw [List.length_map, List.length_map]; omega)
          have n2 : zs.drop (zs.map Cl.v).length = [] := List.drop_eq_nil_of_le (by rw [List.length_map]; exact Nat.le_refl _)
          rw [n1, n2] at hold1
          rw [hold1] at kk
          exact kk H' (e1.ex (e2.trans ex))
end
end K04
set_option Elab.async false
set_option linter.all false
set_option maxRecDepth 100000
set_option maxHeartbeats 4000000
namespace Pu
open PySem PySem.Spec PyProof.Rows L2
/-- the empty set as it is made -/
def bareSet (w : World) : Obj := { cls := .type "set", dict := none, data := .set #[] 0 (.fresh 0 0 (!w.params.followText "set-order")) }
section
variable {P : Program} {w : World} {A : Around} {E : Value → Shared → Prop} {s : Shared}
/-- set(x) of a list of ints: the way of the library's rule for tuples (SetFor), for lists -/
theorem set_of_ints {l : Addr} {xs : Array Value} (zs : List Int) {Q : Value → Shared → Prop} (free : A.handled = none) (isl : s.heap.IsList l xs) (itz : IntsAre xs.toList zs) (few : zs.length + 1 < scanBound)
    (k : ∀ (g : Heap) (tk c : Nat), SetR w g s.heap.objs.size (fun j => decide (j ∈ zs)) c → (∀ b o, s.heap.get? b = some o → g.get? b = some o) → Q (.ref s.heap.objs.size) { s with heap := g, toks := tk }) :
    wpAny (model P w) A (call (.type "set") [.ref l]) Q E s := by
  have size : xs.size = zs.length := by rw [← Array.length_toList]; exact IntsAre.length itz
  obtain ⟨c, tl, mro⟩ := F.called_set.mro
  have a1 := F.called_set.made; have a2 := F.called_set.sub
  refine wpAny_call (codeAny_of_tree ?_)
  show wpAny _ _ (callAny (.type "set") ⟨[.ref l], []⟩) _ _ _
  refine wpAny_pure ⟨Code.quiet_builtin _ (by decide +kernel), codeAny_builtin F.entry_type_call ?_⟩; rw [Around.under_plain (weight_type_call_type "set" [.ref l] []) rfl]
  have a3 := F.called_set.notType; have a4 := F.called_set.canCreate; have a5 := F.typeCall_set_1 (.ref l); repeat (any_goals (first | assumption | wp_step))
  refine codeAny_mono (code_set_led1 (.ref l) (E := E) (Q₁ := fun v t => v = .ref s.heap.objs.size ∧ t = { s with heap := s.heap.push (bareSet w) }) ⟨rfl, rfl⟩) fun r t hr => ?_
  match r, hr with
  | .error e, hr => exact hr
  | .ok (.next), hr => exact hr.elim
  | .ok (.brk), hr => exact hr.elim
  | .ok (.cont), hr => exact hr.elim
  | .ok (.ret v), hr =>
    obtain ⟨rfl, rfl⟩ := hr
    have at0 : (s.heap.push (bareSet w)).get? s.heap.objs.size = some (bareSet w) := Heap.get?_push_size _ rfl
    have ty : Shared.TypeIs { s with heap := s.heap.push (bareSet w) } (.ref s.heap.objs.size) "set" := ⟨_, at0, rfl⟩
    have b1 := F.called_set.init.lookup; have b2 := F.called_set.init.bind (.ref s.heap.objs.size); repeat (any_goals (first | assumption | wp_step))
    refine codeAny_mono (codeAny_call_builtin (R := wants (fun r t => r = .none ∧ ∃ g tk c, t = { s with heap := g, toks := tk } ∧ SetR w g s.heap.objs.size (fun j => decide (j ∈ zs)) c ∧
        (∀ b o, s.heap.get? b = some o → g.get? b = some o)) E) F.called_set.init.plain F.entry_set_init (check_set_init_1 ty ?_)) fun r2 t2 hr2 => ?_
    · obtain ⟨⟨oc, od, odt, osl⟩, ho, hc, nl, hd⟩ := isl
      dsimp only at hc hd; subst hc; subst hd
      have old : (s.heap.push (bareSet w)).get? l = some { cls := .type "list", dict := od, data := .seq xs nl, slots := osl } := Heap.get?_push_of_some _ ho
      have c1 := F.sub_list_set; have c2 := F.sub_list_frozenset; have c3 : (Value.type "list" == Value.type "dict") = false := by decide
      have isl1 : (s.heap.push (bareSet w)).IsList l xs := ⟨_, old, rfl, nl, rfl⟩
      unfold Builtin.«set.__init__» noKeywords Builtin.Frozenset.updateFrom
      generalize it : pyIter = PI; wp_walk; subst it
      refine wpAny_pyIter_list isl1 (wpAny_bind (wpAny_runValue ?_))
      have ll : l < s.heap.objs.size := Heap.lt_size ho
      have free3 : A.in1.in1.in1.handled = none := by simp [free]
      have ne : l ≠ (s.heap.push (bareSet w)).objs.size := by rw [Heap.size_push]; exact Nat.ne_of_lt (Nat.lt_succ_of_lt ll)
      have nin : s.heap.objs.size ∉ [(s.heap.push (bareSet w)).objs.size, l] := by
        rw [Heap.size_push]
        intro z
        rcases List.mem_cons.mp z with z | z
        · exact absurd z (Nat.ne_of_lt (Nat.lt_succ_self _))
        · exact absurd (List.mem_singleton.mp z) (Nat.ne_of_gt ll)
      have each : ∀ (i : Nat) (v : Value), xs[i]? = some v → ∃ k t, zs[i]? = some k ∧ v = .int k t := fun i v hv => by
        have hi : i < zs.length := by rw [← size]; exact (Array.getElem?_eq_some_iff.mp hv).1
        obtain ⟨t, e⟩ := PyProof.Rows.IntsAre.int_at itz i v (by rw [Array.getElem?_toList]; exact hv)
        exact ⟨zs[i], t, List.getElem?_eq_getElem hi, by rw [e, List.getD_eq_getElem?_getD, List.getElem?_eq_getElem hi] <;> rfl⟩
      refine set_update_ints ((Walks.list free3 _ l ne xs).toS) s.heap.objs.size nin zs size few each (xs.size - 0) 0 _ (by omega) (Nat.zero_le _) ⟨⟨_, Heap.get?_push_size _ rfl, rfl, rfl⟩, (isl1.push _)⟩ ?_ ?_
      · exact ⟨0, Nat.le_refl 0, setR_new_at (Heap.get?_push_of_some _ at0)⟩
      · intro t c' mv _ hS
        obtain ⟨g, g2, d2, k2, o2⟩ := t
        have e1 : g2 = s.gens := mv.gens
        have e2 : d2 = s.drawn := mv.drawn
        have e3 : o2 = s.os := mv.os
        subst e1 e2 e3
        show wpAny _ _ _ _ _ _
        refine wpAny_pure ?_
        show wpAny _ _ (ret Value.none) _ _ _
        refine wpAny_pure ⟨rfl, g, k2, c', rfl, hS, fun b o e => ?_⟩
        have hb : b < s.heap.objs.size := Heap.lt_size e
        refine mv.heap b o (fun z => ?_) (Heap.get?_push_of_some _ (Heap.get?_push_of_some _ e))
        rcases List.mem_cons.mp z with z | z
        · exact absurd z (Nat.ne_of_lt hb)
        · rw [Heap.size_push] at z
          exact absurd (List.mem_singleton.mp z) (Nat.ne_of_lt (Nat.lt_succ_of_lt hb))
    · match r2, hr2 with
      | .error e, hr2 => exact hr2
      | .ok (.next), hr2 => exact hr2.elim
      | .ok (.brk), hr2 => exact hr2.elim
      | .ok (.cont), hr2 => exact hr2.elim
      | .ok (.ret v), hr2 =>
        obtain ⟨rfl, g, tk, c', rfl, hS, kp⟩ := hr2
        (repeat (any_goals (first | assumption | wp_step))); exact k _ _ _ hS kp
end
end Pu
set_option Elab.async false
set_option linter.all false
set_option maxRecDepth 100000
set_option maxHeartbeats 4000000
namespace Pu
open PySem PySem.Spec PyProof.Rows L2 GxR
theorem nodup_le : ∀ {l m : List Int}, l.Nodup → (∀ x ∈ l, x ∈ m) → l.length ≤ m.length
  | [], _, _, _ => Nat.zero_le _
  | x :: l, m, hn, h => by
    have hx := h x (List.mem_cons_self ..)
    have n2 := List.nodup_cons.mp hn
    have ih := nodup_le (l := l) (m := m.erase x) n2.2 fun y hy => (List.mem_erase_of_ne (fun e => n2.1 (by rw [← e]; exact hy))).mpr (h y (List.mem_cons_of_mem _ hy))
    rw [List.length_erase_of_mem hx] at ih
    have : 0 < m.length := List.length_pos_of_mem hx
    rw [List.length_cons]
    omega
section
variable {X : Cx}
/-- sorted(set(x)), x a list of numbers below 63 -/
def tSortSet (K : PySem.W.Frag) (ta : TE) : TE := fun σ H Q => ta σ H fun x H1 => ∃ (l : Addr) (ns : List Int), x = .ref l ∧ SqL K H1 l (ns.map V.int) ∧ ns.length ≤ 4000 ∧ (∀ k ∈ ns, 0 ≤ k ∧ k < 63) ∧
  ∀ (ms : List Int) (p : Addr), ms.Pairwise (· < ·) → (∀ k : Int, k ∈ ms ↔ k ∈ ns) → H1 p = none → Q (.ref p) (upd H1 p (.lst (ms.map V.int)))
theorem setR_few {w : World} {h : Heap} {a : Addr} {ns : List Int} {c : Nat} (R : SetR w h a (fun j => decide (j ∈ ns)) c) (hb : ∀ k ∈ ns, 0 ≤ k ∧ k < 63) : c < 64 := by
  obtain ⟨o, es, ep, t, _, _, _, _, nd, mem, _, _, hn, _⟩ := R
  have h1 : (es.toList.map keyOf).length ≤ ((List.range 63).map fun i : Nat => (i : Int)).length := nodup_le nd fun k hk => by
    have := hb k (of_decide_eq_true ((mem k).mpr hk))
    exact List.mem_map.mpr ⟨k.toNat, List.mem_range.mpr (by omega), by omega⟩
  rw [List.length_map, List.length_map, List.length_range, Array.length_toList, hn] at h1
  omega
theorem sort_step {pins : List (Addr × Obj)} {s : Shared} {σ : L2.St} {H : Hp} {a : Addr} {S : Int → Bool} {c : Nat} {Q : VK} {E : Value → Shared → Prop} (hc : X.calm = true) (I : Inv X pins σ H s) (R : SetR X.w s.heap a S c) (h64 : c < 64)
    (q1 : ∀ (ms : List Int) (p : Addr), ms.Pairwise (· < ·) → (∀ k : Int, k ∈ ms ↔ S k = true) → H p = none → Q (.ref p) (upd H p (.lst (ms.map V.int)))) : wpAny (model X.prog X.w) X.A (call (.builtin "sorted") [.ref a]) (EP X pins σ Q) E s := by
  refine sorted_set R (I.ok.hd hc) h64 fun s' p out cc ms k g o hp hg' hi hs hm' hl' => ?_
  have hlt : (ms.map V.int).length ≤ sizeLine := by
    rw [List.length_map, hl', sizeLine_eq]
    omega
  have hn : H p = none := I.hok.fresh hp
  have J : Inv X pins σ (upd H p (.lst (ms.map V.int))) { s with heap := s'.heap, gens := s'.gens, drawn := s'.drawn, toks := s'.toks } := I.call (ch := []) (Un.laid k hp hn) (I.hok.laid k hp ⟨hlt, out.toList, cc, vals_of_ints hi, hg'⟩) (by rw [g]; exact I.bare) (fun _ z => nomatch z)
  have e : s' = { s with heap := s'.heap, gens := s'.gens, drawn := s'.drawn, toks := s'.toks } := by cases s'; cases s; cases o; rfl
  rw [e]
  exact ⟨.ref p, _, J, rfl, q1 ms p hs hm' hn⟩
theorem pe_sortSet {a : Expr} {ta : TE} {p p2 q pos : Pos} (hg : Gl X "sorted") (hm : X.mg "sorted" = none) (hg2 : Gl X "set") (hm2 : X.mg "set" = none) (ha : PE X a ta) (hc : X.calm = true := by rfl)
    (na : starEach [a] X.env = (false, eval a X.env) :: starEach [] X.env := by rfl) : PE X (.Call (.Name "sorted" p) [.Call (.Name "set" p2) [a] [] q] [] pos) (tSortSet X.K ta) := by
  refine ⟨fun pins s σ H Q I h => Call_ (ld_blt I hg hm boot_sorted (PyProof.Rows.callWith_builtin1 (PyProof.Rows.args_cons (Call_ (ld_blt I hg2 hm2 boot_set ?_)) rfl) rfl rfl))⟩
  refine PyProof.Rows.callWith_type1 (PyProof.Rows.args_cons (thn (ha.run pins s σ H _ I h) fun v s1 ⟨x, H1, I1, r1, q1⟩ => PyProof.Rows.args_nil ?_) na) na rfl
  obtain ⟨l, ns, rfl, hq, hl, hb, q1⟩ := q1
  cases (show v = Value.ref l from r1)
  obtain ⟨its, r, pl, hz⟩ := I1.list hq
  have hlen : its.toArray.size = ns.length := by rw [List.size_toArray, ← r.length, List.length_map]
  refine set_of_ints ns (I1.ok.hd hc) pl.isList (by simpa using RZ.intsAre_vals r) (by unfold scanBound; omega) fun h' tk c hS hk => PyProof.Rows.args_nil ?_
  have I2 : Inv X pins σ H1 { s1 with heap := h', toks := tk } := I1.kept fun b o e => hk b o e
  exact sort_step hc I2 hS (setR_few hS hb) fun ms p' hs hm' hn => q1 ms p' hs (fun k => by rw [hm' k]; exact decide_eq_true_iff) hn
end
end Pu
set_option Elab.async false
set_option linter.all false
set_option maxRecDepth 100000
set_option maxHeartbeats 4000000
namespace Pu
open PySem PySem.Spec PyProof.Rows L2 GxR Evl
def bodyOf : Stmt → List Stmt
  | .For _ _ b _ _ => b
  | .If _ b _ _ => b
  | _ => []
/-- a step of the law, told by the turn i -/
def Ti (X : Cx) (st : Stmt) (A B : Nat → L2.St → Hp → Prop) : Prop := ∃ t, PS X st t ∧ ∀ i D σ H, A i σ H → (∀ σ' H', B i σ' H' → D.nx σ' H') → t D σ H
def Tis (X : Cx) (l : List Stmt) (A B : Nat → L2.St → Hp → Prop) : Prop := ∃ t, PSs X l t ∧ ∀ i D σ H, A i σ H → (∀ σ' H', B i σ' H' → D.nx σ' H') → t D σ H
theorem Tis.cons {X : Cx} {st : Stmt} {l : List Stmt} {A B C : Nat → L2.St → Hp → Prop} (h : Ti X st A B) (k : Tis X l B C) : Tis X (st :: l) A C := by
  obtain ⟨t, h1, h2⟩ := h
  obtain ⟨u, k1, k2⟩ := k
  exact ⟨_, pss_cons h1 k1, fun i D σ H a q => h2 i { D with nx := u D } σ H a fun σ' H' b => k2 i D σ' H' b q⟩
theorem Tis.one {X : Cx} {st : Stmt} {A B : Nat → L2.St → Hp → Prop} (h : Ti X st A B) : Tis X [st] A B := by
  obtain ⟨t, h1, h2⟩ := h
  exact ⟨_, pss_one h1, h2⟩
theorem wipe1 {σ : L2.St} {j : Nat} {x : Option V} : wipe ((wipe σ [j]).set j x) [j] = wipe σ [j] := by
  show ((σ.set j none).set j x).set j none = σ.set j none
  rw [List.set_set, List.set_set]
theorem wipe_at {σ : L2.St} {j : Nat} {x : V} (h : j < σ.length) : ((wipe σ [j]).set j (some x))[j]? = some (some x) := sl_eq (by show j < (σ.set j none).length; rw [List.length_set]; exact h)
theorem wipe_ne {σ : L2.St} {i j : Nat} {x : Option V} {y : V} (h : σ[i]? = some (some y)) (n : j ≠ i) : ((wipe σ [j]).set j x)[i]? = some (some y) := sl_ne (sl_ne h n) n
theorem wipe_len {σ : L2.St} {j : Nat} {x : Option V} : ((wipe σ [j]).set j x).length = σ.length := by
  rw [List.length_set]
  show (σ.set j none).length = _
  rw [List.length_set]
theorem Sm.intI {a : Int} (h0 : 0 ≤ a) (h : a ≤ 1000000) : Sm 0 0 (.int a) := by
  obtain ⟨n, rfl⟩ := Int.eq_ofNat_of_zero_le h0
  exact Sm.int (by omega)
/-- a comprehension whose turns may change the heap: an invariant of the turn, the heap, what is made -/
theorem lc_inv {J : It} {n : Nat} {G : Hp → Prop} {Y : Nat → Hp → V → Hp → Prop} (w : Walk J n G Y) {g : TG} {tt : TT} {te : TE} {vs : List Nat} {σ : L2.St} {H1 : Hp} {D : Addr} {Qd : Hp → Prop} (R : Nat → Hp → List V → Prop) (hn : n ≤ 40000)
    (h0 : R 0 (upd H1 D (.lst [])) []) (hG : ∀ i H acc, R i H acc → G H)
    (turn : ∀ i x H H' acc, i < n → H D = some (.lst acc) → R i H acc → Y i H x H' → ∀ (Qy : V → Hp → Prop) (Qn : Hp → Prop), (∀ y H4, H4 D = some (.lst acc) → R (i + 1) (upd H4 D (.lst (acc ++ [y]))) (acc ++ [y]) → Qy y H4) → (∀ H3, H3 D = some (.lst acc) → R (i + 1) H3 acc → Qn H3) →
      g x (wipe σ vs) H' fun σ2 H2 => wipe σ2 vs = wipe σ vs ∧ tt σ2 H2 fun b H3 => if b = true then te σ2 H3 Qy else Qn H3)
    (hd : ∀ H acc, H D = some (.lst acc) → R n H acc → Qd H) :
    ∃ W : Nat → Nat → Hp → Prop, (∃ m, W 0 m (upd H1 D (.lst []))) ∧ ∀ i m H, W i m H →
      (J.stop i H ∧ Qd H) ∨ (J.go i H ∧ ∃ Nx : Hp → Prop, (∀ H', Nx H' → ∃ m', m' < m ∧ W (i + 1) m' H') ∧ ∀ x H', J.yld i H x H' → g x (wipe σ vs) H' fun σ2 H2 => wipe σ2 vs = wipe σ vs ∧ tt σ2 H2 fun b H3 =>
        if b = true then te σ2 H3 fun y H4 => ∃ acc, H4 D = some (.lst acc) ∧ acc.length < sizeLine ∧ Nx (upd H4 D (.lst (acc ++ [y]))) else Nx H3) := by
  refine lc_it w (fun i H => ∃ acc, H D = some (.lst acc) ∧ acc.length ≤ i ∧ R i H acc) ⟨[], upd_same, Nat.le_refl _, h0⟩ (fun i H _ p => ?_) (fun i x H H' hi p y => ?_) fun H p => ?_
  · obtain ⟨acc, _, _, r⟩ := p
    exact hG i H acc r
  · obtain ⟨acc, hH, hl, hR⟩ := p
    refine turn i x H H' acc hi hH hR y _ _ (fun v H4 h4 r4 => ?_) fun H3 h3 r3 => ⟨acc, h3, Nat.le_succ_of_le hl, r3⟩
    refine ⟨acc, h4, Nat.lt_of_le_of_lt (show acc.length ≤ 40000 by omega) (by decide), acc ++ [v], upd_same, ?_, r4⟩
    rw [List.length_append, List.length_singleton]
    omega
  · obtain ⟨acc, hH, _, hR⟩ := p
    exact hd H acc hH hR
end Pu
set_option Elab.async false
set_option linter.all false
namespace Chn
theorem full_tail {y : Int × Int} {t : List (Int × Int)} (f : Full (y :: t)) : Full t := fun z hz => f z (List.mem_cons_of_mem _ hz)
/-- each stamp between least and greatest is met, at any row -/
theorem sol_at {g p : Int} (hg : g ≤ p) : ∀ {ws : List Win} {s : Int × Int} {i : Nat} {v : Int}, Full (bck g p (fwd g p s ws)) → i < ws.length → ((bck g p (fwd g p s ws)).getD i (0, 0)).1 ≤ v → v ≤ ((bck g p (fwd g p s ws)).getD i (0, 0)).2 → ∃ xs, Sol g p s ws xs ∧ xs[i]? = some v
  | [], _, _, _, _, h, _, _ => absurd h (Nat.not_lt_zero _)
  | w :: ws, s, 0, v, f, _, h1, h2 => by
    obtain ⟨y, t, e⟩ : ∃ y t, bck g p (fwd g p s (w :: ws)) = y :: t := by
      cases h : bck g p (fwd g p s (w :: ws)) with
      | nil =>
        have := bck_len (g := g) (p := p) (fwd g p s (w :: ws))
        rw [h] at this
        simp [fwd] at this
      | cons y t => exact ⟨y, t, rfl⟩
    rw [e] at h1 h2
    obtain ⟨xs, hx⟩ := sol_from hg f e (show y.1 ≤ v from h1) (show v ≤ y.2 from h2)
    exact ⟨v :: xs, hx, rfl⟩
  | w :: ws, s, i + 1, v, f, hi, h1, h2 => by
    have hi' : i < ws.length := by rw [List.length_cons] at hi; omega
    have e : bck g p (fwd g p s (w :: ws)) = bck g p (cut s w :: fwd g p ((cut s w).1 + g, (cut s w).2 + p) ws) := rfl
    rw [bck_cons] at e
    obtain ⟨r, hr⟩ : ∃ r, r = bck g p (fwd g p ((cut s w).1 + g, (cut s w).2 + p) ws) := ⟨_, rfl⟩
    rw [← hr] at e
    cases r with
    | nil =>
      have := bck_nil hr.symm
      rw [this] at hi'
      exact absurd hi' (Nat.not_lt_zero _)
    | cons y t =>
      rw [e] at f h1 h2
      have f2 : Full (bck g p (fwd g p ((cut s w).1 + g, (cut s w).2 + p) ws)) := by rw [← hr]; exact full_tail f
      have c : ∀ (a : Int × Int), (a :: y :: t).getD (i + 1) (0, 0) = (y :: t).getD i (0, 0) := fun a => by simp [List.getD]
      rw [c] at h1 h2
      rw [hr] at h1 h2
      obtain ⟨xs, hx, hv⟩ := sol_at hg f2 hi' h1 h2
      cases xs with
      | nil => simp at hv
      | cons u us =>
        have hu := hx.head
        have hmx : ∃ x, (cut s w).1 ≤ x ∧ x ≤ (cut s w).2 ∧ x + g ≤ u ∧ u ≤ x + p := by
          refine ⟨max (cut s w).1 (u - p), ?_, ?_, ?_, ?_⟩
          · omega
          · have a1 := hu.1
            have a2 := hu.2
            have fl := f _ (List.mem_cons_self ..)
            have q1 := (cut_lo (s := cut s w) (w := (y.1 - p, some (y.2 - g)))).1
            have q2 := (cut_hi (s := cut s w) (w := (y.1 - p, some (y.2 - g)))).1
            dsimp only at a1 a2
            omega
          · have a1 := hu.1
            dsimp only at a1
            omega
          · omega
        obtain ⟨x, x1, x2, x3, x4⟩ := hmx
        refine ⟨x :: u :: us, ⟨⟨?_, ?_⟩, ⟨?_, ?_⟩, hx.move (t := (x + g, x + p)) x3 x4⟩, hv⟩
        · have := (cut_lo (s := s) (w := w)).1; omega
        · have := (cut_hi (s := s) (w := w)).1; omega
        · have := (cut_lo (s := s) (w := w)).2; omega
        · intro h hh
          have := (cut_hi (s := s) (w := w)).2 h hh
          omega
/-- a window of one stamp -/
def pinI (st : Int) (w : Win) : Win := (max st w.1, some (match w.2 with
  | none => st
  | some h => min st h))
theorem in_pin {st x : Int} {w : Win} : ((pinI st w).1 ≤ x ∧ ∀ h, (pinI st w).2 = some h → x ≤ h) ↔ x = st ∧ (w.1 ≤ x ∧ ∀ h, w.2 = some h → x ≤ h) := by
  obtain ⟨lo, o⟩ := w
  unfold pinI
  cases o with
  | none =>
    constructor
    · rintro ⟨a, b⟩
      have := b _ rfl
      dsimp only at a this
      exact ⟨by omega, by dsimp only; omega, fun h hh => by cases hh⟩
    · rintro ⟨rfl, a, _⟩
      dsimp only at a ⊢
      exact ⟨by omega, fun h hh => by cases hh; omega⟩
  | some k =>
    constructor
    · rintro ⟨a, b⟩
      have := b _ rfl
      dsimp only at a this
      exact ⟨by omega, by dsimp only; omega, fun h hh => by cases hh; omega⟩
    · rintro ⟨rfl, a, b⟩
      have := b _ rfl
      dsimp only at a ⊢
      exact ⟨by omega, fun h hh => by cases hh; omega⟩
theorem sol_pin {g p st : Int} : ∀ {ws : List Win} {s : Int × Int} {i : Nat} {xs : List Int} {w : Win}, ws[i]? = some w → (Sol g p s (ws.set i (pinI st w)) xs ↔ Sol g p s ws xs ∧ xs[i]? = some st)
  | [], _, _, _, _, h => by simp at h
  | v :: ws, s, 0, [], w, h => ⟨fun x => x.elim, fun x => x.1.elim⟩
  | v :: ws, s, 0, x :: xs, w, h => by
    have e : v = w := by simpa using h
    subst e
    show ((s.1 ≤ x ∧ x ≤ s.2) ∧ ((pinI st v).1 ≤ x ∧ ∀ h, (pinI st v).2 = some h → x ≤ h) ∧ Sol g p (x + g, x + p) ws xs) ↔ ((s.1 ≤ x ∧ x ≤ s.2) ∧ (v.1 ≤ x ∧ ∀ h, v.2 = some h → x ≤ h) ∧ Sol g p (x + g, x + p) ws xs) ∧ some x = some st
    rw [in_pin, Option.some.injEq]
    constructor
    · rintro ⟨a, ⟨b, c⟩, d⟩
      exact ⟨⟨a, c, d⟩, b⟩
    · rintro ⟨⟨a, c, d⟩, b⟩
      exact ⟨a, ⟨b, c⟩, d⟩
  | v :: ws, s, i + 1, [], w, h => ⟨fun x => x.elim, fun x => x.1.elim⟩
  | v :: ws, s, i + 1, x :: xs, w, h => by
    have ih := sol_pin (g := g) (p := p) (st := st) (ws := ws) (s := (x + g, x + p)) (i := i) (xs := xs) (w := w) (by simpa using h)
    show ((s.1 ≤ x ∧ x ≤ s.2) ∧ (v.1 ≤ x ∧ ∀ h, v.2 = some h → x ≤ h) ∧ Sol g p (x + g, x + p) (ws.set i (pinI st w)) xs) ↔ ((s.1 ≤ x ∧ x ≤ s.2) ∧ (v.1 ≤ x ∧ ∀ h, v.2 = some h → x ≤ h) ∧ Sol g p (x + g, x + p) ws xs) ∧ xs[i]? = some st
    rw [ih]
    constructor
    · rintro ⟨a, b, c, d⟩
      exact ⟨⟨a, b, c⟩, d⟩
    · rintro ⟨⟨a, b, c⟩, d⟩
      exact ⟨a, b, c, d⟩
/-- stamps lie within the stretches, row by row -/
theorem in_at : ∀ {L : List (Int × Int)} {xs : List Int} {i : Nat} {x : Int}, In L xs → xs[i]? = some x → (L.getD i (0, 0)).1 ≤ x ∧ x ≤ (L.getD i (0, 0)).2
  | [], [], _, _, _, h => by simp at h
  | [], _ :: _, _, _, h, _ => h.elim
  | _ :: _, [], _, _, h, _ => h.elim
  | y :: L, x :: xs, 0, v, h, hv => by
    have e : x = v := by simpa using hv
    subst e
    exact h.1
  | y :: L, x :: xs, i + 1, v, h, hv => by
    have := in_at (i := i) h.2 (by simpa using hv)
    simpa [List.getD] using this
theorem sol_len {g p : Int} : ∀ {ws : List Win} {s : Int × Int} {xs : List Int}, Sol g p s ws xs → xs.length = ws.length
  | [], _, [], _ => rfl
  | [], _, _ :: _, h => h.elim
  | _ :: _, _, [], h => h.elim
  | _ :: ws, _, _ :: xs, h => by rw [List.length_cons, List.length_cons, sol_len h.2.2]
end Chn
set_option Elab.async false
set_option linter.all false
set_option maxRecDepth 100000
set_option maxHeartbeats 4000000
namespace K04
open PySem PySem.Spec PyProof.Rows L2 GxR Pu Evl
abbrev lawN : List Str := ["_law_script", "_law_box_here", "_law_chain_here", "_law_lines", "_law_handed", "_law_columns", "_law_due", "_law_least", "_law_latest", "_law_at", "_law_stamp", "_law_some", "_law_line", "_law_right", "_law_value", "_law_k", "_law_turn", "_law_one", "_law_window"]
theorem scLaw : FnScope lawN ["_law_script"] (defScope sLaw) := ⟨rfl, rfl, rfl, by decide +kernel, rfl, by decide +kernel, by decide +kernel⟩
def lawS (i : Nat) : Stmt := (defBody sLaw).getD i (.Pass ⟨0, 0, 0, 0⟩)
def forS (i : Nat) : Stmt := (bodyOf (lawS 0)).getD i (.Pass ⟨0, 0, 0, 0⟩)
def turS (i : Nat) : Stmt := (bodyOf (forS 13)).getD i (.Pass ⟨0, 0, 0, 0⟩)
abbrev LX (P : Program) (w : World) (K : PySem.W.Frag) (mg : Str → Option Value) (base : Heap) (fa : Addr) (cdv : Value) (s0 : Shared) (H0 : Hp) : Cx := (cxOf CX0 P w K mg base lawN "law" (defScope sLaw) fa cdv callerA [] s0 H0 E0).nox
structure Cal (P : Program) (w : World) (K : PySem.W.Frag) (mg : Str → Option Value) (base : Heap) (x : Str) (ps : List Str) (st : Stmt) (k : Nat) (sp : Sp) (f : Addr) (fd : FuncData) : Prop where
  ns : Fns K mg x ps st f fd
  ok : FnOk P w K mg base CX0 k f fd ps sp
theorem Ch.Small.ok {c : Ch} (s : c.Small) : c.Ok := ⟨s.g1, s.gp, Nat.le_trans s.p5 (by decide), Nat.le_trans s.wl (by decide)⟩
theorem mem_ln {c : Ch} {xs : List Int} : xs ∈ c.lines ↔ Chn.Sol c.g c.p (Chn.first c.g c.p (c.b.map fun n => (n : Int))) (c.ws.map winI) xs := Chn.mem_lines
theorem Ch.Small.gpI {c : Ch} (s : c.Small) : (1 : Int) ≤ c.g ∧ (c.g : Int) ≤ c.p := by
  have := s.g1
  have := s.gp
  omega
theorem line_small {c : Ch} (sm : c.Small) {xs : List Int} (h : xs ∈ c.lines) : xs.length = c.ws.length ∧ ∀ x ∈ xs, 0 ≤ x ∧ x ≤ 25 := by
  have hs := mem_ln.mp h
  refine ⟨by rw [Chn.sol_len hs, List.length_map], fun x hx => ?_⟩
  have s1 : 0 ≤ (Chn.first c.g c.p (c.b.map fun n => (n : Int))).1 ∧ (Chn.first c.g c.p (c.b.map fun n => (n : Int))).2 ≤ 10 := by
    have := sm.p5
    cases hb : c.b with
    | none => exact ⟨Int.le_refl 0, by show (c.p : Int) ≤ 10; omega⟩
    | some n =>
      have := sm.b5 n hb
      exact ⟨by show 0 ≤ (n : Int) + c.g; omega, by show (n : Int) + c.p ≤ 10; omega⟩
  have h1 := Chn.sol_small (by omega) (by omega) s1.1 hs x hx
  rw [List.length_map] at h1
  have wl := sm.wl
  have p5 := sm.p5
  have m : (c.p : Int) * ((c.ws.length : Int) - 1) ≤ 5 * 3 := by
    by_cases z : c.ws.length = 0
    · rw [z]
      have : (c.p : Int) * (((0 : Nat) : Int) - 1) = -(c.p : Int) := by rw [Int.natCast_zero, Int.zero_sub, Int.mul_neg, Int.mul_one]
      rw [this]
      omega
    · exact Int.mul_le_mul (by omega) (by omega) (by omega) (by omega)
  omega
theorem full_iff {c : Ch} (sm : c.Small) : Chn.Full c.bck ↔ c.lines ≠ [] := by
  have h := Chn.sol_iff (g := c.g) (p := c.p) sm.gpI.2 (ws := c.ws.map winI) (s := Chn.first c.g c.p (c.b.map fun n => (n : Int)))
  refine h.symm.trans ⟨fun ⟨xs, hx⟩ z => ?_, fun z => ?_⟩
  · have := mem_ln.mpr hx
    rw [z] at this
    cases this
  · obtain ⟨xs, hx⟩ := List.exists_mem_of_ne_nil _ z
    exact ⟨xs, mem_ln.mp hx⟩
theorem ends_in {c : Ch} (sm : c.Small) (f : Chn.Full c.bck) : c.bck.map (·.1) ∈ c.lines ∧ c.bck.map (·.2) ∈ c.lines := by
  obtain ⟨h1, h2⟩ := Chn.sol_ends sm.gpI.2 f
  exact ⟨mem_ln.mpr h1, mem_ln.mpr h2⟩
theorem bck_small {c : Ch} (sm : c.Small) (f : Chn.Full c.bck) : ∀ y ∈ c.bck, (0 ≤ y.1 ∧ y.1 ≤ 25) ∧ (0 ≤ y.2 ∧ y.2 ≤ 25) := fun y hy => by
  obtain ⟨h1, h2⟩ := ends_in sm f
  exact ⟨(line_small sm h1).2 _ (List.mem_map.mpr ⟨y, hy, rfl⟩), (line_small sm h2).2 _ (List.mem_map.mpr ⟨y, hy, rfl⟩)⟩
/-- what is told by its first and last number -/
def lst : Option (Int × Int) → List Int
  | none => []
  | some (a, b) => Chn.ir a b
def OkO (o : Option (Int × Int)) : Prop := ∀ a b, o = some (a, b) → 0 ≤ a ∧ a ≤ b ∧ b ≤ 25
/-- the columns of all lines -/
def Ch.col (c : Ch) (i : Nat) : List Int := c.lines.map fun l => l.getD i 0
open Classical in
noncomputable def Ch.cols (c : Ch) : List (Option (Int × Int)) := if Chn.Full c.bck then c.bck.map some else c.bck.map fun _ => none
theorem cols_len (c : Ch) : c.cols.length = c.ws.length := by
  unfold Ch.cols
  split <;> rw [List.length_map, bck_len']
theorem col_is {c : Ch} (sm : c.Small) {i : Nat} (hi : i < c.ws.length) {ms : List Int} (h1 : ms.Pairwise (· < ·)) (h2 : ∀ k : Int, k ∈ ms ↔ k ∈ c.col i) : ∃ o, c.cols[i]? = some o ∧ ms = lst o ∧ OkO o := by
  have hb : i < c.bck.length := by rw [bck_len']; exact hi
  by_cases f : Chn.Full c.bck
  · refine ⟨some c.bck[i], by unfold Ch.cols; rw [if_pos f, List.getElem?_map, List.getElem?_eq_getElem hb]; rfl, ?_, fun a b e => ?_⟩
    · refine Chn.asc_ir h1 fun k => ?_
      rw [h2 k]
      unfold Ch.col
      rw [List.mem_map]
      have gd : c.bck.getD i (0, 0) = c.bck[i] := by rw [List.getD_eq_getElem?_getD, List.getElem?_eq_getElem hb]; rfl
      constructor
      · rintro ⟨l, hl, rfl⟩
        have hll := (line_small sm hl).1
        have := Chn.in_at (i := i) (x := l.getD i 0) (Chn.sol_in (mem_ln.mp hl)) (by rw [List.getD_eq_getElem?_getD, List.getElem?_eq_getElem (by omega)]; rfl)
        have gd2 : (Chn.bck c.g c.p (Chn.fwd c.g c.p (Chn.first c.g c.p (c.b.map fun n => (n : Int))) (c.ws.map winI))).getD i (0, 0) = c.bck[i] := gd
        rw [gd2] at this
        exact this
      · rintro ⟨a, b⟩
        have a' : (c.bck.getD i (0, 0)).1 ≤ k := by rw [gd]; exact a
        have b' : k ≤ (c.bck.getD i (0, 0)).2 := by rw [gd]; exact b
        obtain ⟨xs, hx, hv⟩ := Chn.sol_at sm.gpI.2 f (by rw [List.length_map]; exact hi) a' b'
        exact ⟨xs, mem_ln.mpr hx, by rw [List.getD_eq_getElem?_getD, hv]; rfl⟩
    · have e' : c.bck[i] = (a, b) := Option.some.inj e
      have m : c.bck[i] ∈ c.bck := List.getElem_mem hb
      have s := bck_small sm f _ m
      have fl := f _ m
      rw [e'] at s fl
      dsimp only at s fl
      omega
  · refine ⟨none, by unfold Ch.cols; rw [if_neg f, List.getElem?_map, List.getElem?_eq_getElem hb]; rfl, ?_, fun a b e => nomatch e⟩
    cases ms with
    | nil => rfl
    | cons x l =>
      have : c.lines = [] := Classical.byContradiction fun z => f ((full_iff sm).mpr z)
      have hx := (h2 x).mp (List.mem_cons_self ..)
      unfold Ch.col at hx
      rw [this] at hx
      cases hx
/-- the law's slots: script, box, chain, lines -/
structure Ctx (K : PySem.W.Frag) (T a : Addr) (ns : List Int) (c : Ch) (p e : Addr) (cv : V) (ys : List V) (σ : L2.St) (H : Hp) : Prop where
  len : σ.length = 19
  v0 : σ[0]? = some (some (.ref a))
  v1 : σ[1]? = some (some (.ref p))
  v2 : σ[2]? = some (some cv)
  v3 : σ[3]? = some (some (.ref e))
  sm : c.Small
  hs : Hs K T a ns p H
  hc : ChT H c cv
  ep : e ≠ p
  he : H e = some (.lst ys)
  hl : LnT H c.lines ys
  hn : c.lines.length ≤ 1296
section
variable {P : Program} {w : World} {K : PySem.W.Frag} {mg : Str → Option Value} {base : Heap} {T a fa : Addr} {ns : List Int} {cdv : Value} {s0 : Shared} {H0 : Hp} {c : Ch} {p e : Addr} {cv : V} {ys : List V} {σ : L2.St} {H H' : Hp}
variable {fBox fTake fLC fAll fCk : Addr} {dBox dTake dLC dAll dCk : FuncData}
theorem ChT.stp (hs : Hs K T a ns p H) (s : Stp T p H H') (h : ChT H c cv) : ChT H' c cv := by
  obtain ⟨x, y, xs, h1, h2, h3, h4⟩ := h
  exact ⟨x, y, xs, h1, s.tup hs h2, s.tup hs h3, Paired.mapP h4 fun _ _ ⟨b, k1, k2⟩ => ⟨b, k1, s.tup hs k2⟩⟩
theorem Ctx.step (x : Ctx K T a ns c p e cv ys σ H) (s : Stp T p H H') : Ctx K T a ns c p e cv ys σ H' :=
  ⟨x.len, x.v0, x.v1, x.v2, x.v3, x.sm, x.hs.step s, ChT.stp x.hs s x.hc, x.ep, s.lst x.hs x.ep x.he, Paired.mapP x.hl fun _ _ ⟨b, k1, k2⟩ => ⟨b, k1, s.tup x.hs k2⟩, x.hn⟩
theorem Ctx.ex (x : Ctx K T a ns c p e cv ys σ H) (s : Ex H H') : Ctx K T a ns c p e cv ys σ H' := x.step (x.hs.ex s)
theorem Ctx.set (x : Ctx K T a ns c p e cv ys σ H) {i : Nat} {v : Option V} (h : 4 ≤ i) : Ctx K T a ns c p e cv ys (σ.set i v) H :=
  ⟨by rw [List.length_set]; exact x.len, sl_ne x.v0 (by omega), sl_ne x.v1 (by omega), sl_ne x.v2 (by omega), sl_ne x.v3 (by omega), x.sm, x.hs, x.hc, x.ep, x.he, x.hl, x.hn⟩
theorem Hs.new (h : Hs K T a ns p H) {r : Addr} (n : H r = none) : r ≠ p := fun z => by
  obtain ⟨g, s', hbx, _⟩ := h.box
  rw [z, hbx] at n
  cases n
def B0 (K : PySem.W.Frag) (T a : Addr) (ns : List Int) (i : Nat) (σ : L2.St) (H : Hp) : Prop := σ.length = 19 ∧ σ[0]? = some (some (.ref a)) ∧ TabG H T ∧ SqL K H a (ns.map V.int) ∧ i < 12 ∧ σ[15]? = some (some (.int ((i : Nat) : Int)))
def B1 (K : PySem.W.Frag) (T a : Addr) (ns : List Int) (_ : Nat) (σ : L2.St) (H : Hp) : Prop := ∃ p, σ.length = 19 ∧ σ[0]? = some (some (.ref a)) ∧ σ[1]? = some (some (.ref p)) ∧ Hs K T a ns p H
def B2 (K : PySem.W.Frag) (T a : Addr) (ns : List Int) (_ : Nat) (σ : L2.St) (H : Hp) : Prop := ∃ p c cv, σ.length = 19 ∧ σ[0]? = some (some (.ref a)) ∧ σ[1]? = some (some (.ref p)) ∧ Hs K T a ns p H ∧ σ[2]? = some (some cv) ∧ Ch.Small c ∧ ChT H c cv
def B3 (K : PySem.W.Frag) (T a : Addr) (ns : List Int) (_ : Nat) (σ : L2.St) (H : Hp) : Prop := ∃ c p e cv ys, Ctx K T a ns c p e cv ys σ H
theorem ti_box (hr : Room 9 (LX P w K mg base fa cdv s0 H0).A) (C : Cal P w K mg base "_law_box" ["_law_script", "_law_k"] sBox 1 (spBox K ns) fBox dBox) (hn : ns.length ≤ 100) : Ti (LX P w K mg base fa cdv s0 H0) (forS 0) (B0 K T a ns) (B1 K T a ns) := by
  refine ⟨_, ps_set (i := 1) scLaw.nd rfl (.inr rfl) (pe_call C.ok (hr.mono (by decide)) (by rfl) C.ns.mg C.ns.fn.kp C.ns.bd .nil pass0 (pa_cons (pv 0) (pa_cons (pv 15) pa_nil))), fun i D σ H hA k => ?_⟩
  obtain ⟨len, v0, ht, hs, hi, v15⟩ := hA
  refine ⟨_, v0, _, v15, a, i, rfl, hs, hn, by omega, fun p' H' hp e hb => k _ _ ⟨p', by rw [List.length_set]; exact len, sl_ne v0 (by decide), sl_eq (by rw [len]; decide), Hs.ofNew ht hs hp e hb⟩⟩
theorem ti_chain (hr : Room 9 (LX P w K mg base fa cdv s0 H0).A) (C : Cal P w K mg base "_law_chain" ["_law_box_here"] sLawChain 3 spLC fLC dLC) : Ti (LX P w K mg base fa cdv s0 H0) (forS 1) (B1 K T a ns) (B2 K T a ns) := by
  refine ⟨_, ps_set (i := 2) scLaw.nd rfl (.inl rfl) (pe_call C.ok (hr.mono (by decide)) (by rfl) C.ns.mg C.ns.fn.kp C.ns.bd .nil pass0 (pa_cons (pv 1) pa_nil)), fun i D σ H hA k => ?_⟩
  obtain ⟨p, len, v0, v1, hs⟩ := hA
  refine ⟨_, v1, p, rfl, hs.box, fun c v H' sm eb hc => k _ _ ⟨p, c, v, by rw [List.length_set]; exact len, sl_ne v0 (by decide), sl_ne v1 (by decide), hs.step (hs.exB eb), sl_eq (by rw [len]; decide), sm, hc⟩⟩
theorem ti_lines (hr : Room 9 (LX P w K mg base fa cdv s0 H0).A) (C : Cal P w K mg base "_law_all" ["_law_chain_here"] sLawAll 3 spAll fAll dAll) : Ti (LX P w K mg base fa cdv s0 H0) (forS 2) (B2 K T a ns) (B3 K T a ns) := by
  refine ⟨_, ps_set (i := 3) scLaw.nd rfl (.inr rfl) (pe_call C.ok (hr.mono (by decide)) (by rfl) C.ns.mg C.ns.fn.kp C.ns.bd .nil pass0 (pa_cons (pv 2) pa_nil)), fun i D σ H hA k => ?_⟩
  obtain ⟨p, c, cv, len, v0, v1, hs, v2, sm, hc⟩ := hA
  refine ⟨_, v2, c, cv, rfl, sm, hc, fun e ys H' hn ex he hl hz => k _ _ ⟨c, p, e, cv, ys, ?_⟩⟩
  exact ⟨by rw [List.length_set]; exact len, sl_ne v0 (by decide), sl_ne v1 (by decide), sl_ne v2 (by decide), sl_eq (by rw [len]; decide), sm, hs.step (hs.ex ex), hc.ex ex, Hs.new hs hn, he, hl, hz⟩
end
end K04
set_option Elab.async false
set_option linter.all false
set_option maxRecDepth 100000
set_option maxHeartbeats 4000000
namespace K04
open PySem PySem.Spec PyProof.Rows L2 GxR Pu Evl
/-- len(x) -/
def rLen (K : PySem.W.Frag) (ys : List V) (H : Hp) (Q : VK) : Prop := ∃ x n, ys = [x] ∧ LenV K x H n ∧ Q (.int n) H
/-- the chain as lists -/
def HdAt (p : Addr) (H : Hp) (c : Ch) (r : Addr) : Prop := r ≠ p ∧ ∃ D acc, H r = some (.lst [.int (c.g : Nat), .int (c.p : Nat), nonV c.b, .ref D]) ∧ D ≠ p ∧ H D = some (.lst acc) ∧ Paired (fun (w : Nat × Option Nat) (v : V) => ∃ b, v = .ref b ∧ b ≠ p ∧ H b = some (.lst [.int (w.1 : Nat), nonV w.2])) c.ws acc
/-- the columns -/
def ColsAt (p : Addr) (H : Hp) (c : Ch) (r : Addr) : Prop := r ≠ p ∧ ∃ cs, H r = some (.lst cs) ∧ Paired (fun (o : Option (Int × Int)) (v : V) => ∃ q, v = .ref q ∧ q ≠ p ∧ H q = some (.lst ((lst o).map V.int)) ∧ OkO o) c.cols cs
def dNV : Option Nat → PyData
  | none => .none
  | some n => .int (n : Int)
def dWin (w : Nat × Option Nat) : PyData := .tuple [.int (w.1 : Int), dNV w.2]
def dCh (c : Ch) : PyData := .tuple [.int (c.g : Int), .int (c.p : Int), dNV c.b, .tuple (c.ws.map dWin)]
section
variable {P : Program} {w : World} {K : PySem.W.Frag} {mg : Str → Option Value} {base : Heap} {T a fa : Addr} {ns : List Int} {cdv : Value} {s0 : Shared} {H0 : Hp} {c : Ch} {p e : Addr} {cv : V} {ys : List V} {σ : L2.St} {H H' : Hp}
variable {fBox fTake fLC fAll fCk : Addr} {dBox dTake dLC dAll dCk : FuncData}
theorem HdAt.stp {r : Addr} (hs : Hs K T a ns p H) (s : Stp T p H H') (h : HdAt p H c r) : HdAt p H' c r := by
  obtain ⟨h1, D, acc, h2, h3, h4, h5⟩ := h
  exact ⟨h1, D, acc, s.lst hs h1 h2, h3, s.lst hs h3 h4, Paired.mapP h5 fun _ _ ⟨b, k1, k2, k3⟩ => ⟨b, k1, k2, s.lst hs k2 k3⟩⟩
theorem HdAt.che {r : Addr} (h : HdAt p H c r) : ChE K H c (.ref r) := by
  obtain ⟨h1, D, acc, h2, h3, h4, h5⟩ := h
  exact ⟨r, D, acc, rfl, .inr (SqL.of h2), .inr (SqL.of h4), Paired.mapP h5 fun _ _ ⟨b, k1, k2, k3⟩ => ⟨b, k1, .inr (SqL.of k3)⟩⟩
theorem ColsAt.stp {r : Addr} (hs : Hs K T a ns p H) (s : Stp T p H H') (h : ColsAt p H c r) : ColsAt p H' c r := by
  obtain ⟨h1, cs, h2, h3⟩ := h
  exact ⟨h1, cs, s.lst hs h1 h2, Paired.mapP h3 fun _ _ ⟨b, k1, k2, k3, k4⟩ => ⟨b, k1, k2, s.lst hs k2 k3, k4⟩⟩
theorem dpNV (o : Option Nat) : Dp K H (nonV o) (dNV o) := by
  cases o with
  | none => exact .non
  | some n => exact .int _
theorem dpWs {ws : List (Nat × Option Nat)} {xs : List V} (h : WsT H ws xs) : DpAll K H xs (ws.map dWin) := by
  induction h with
  | nil => exact .nil
  | cons r t ih =>
    obtain ⟨b, rfl, hb⟩ := r
    exact .cons (.tup (SqT.of hb) (.cons (.int _) (.cons (dpNV _) .nil))) ih
theorem dpCh (h : ChT H c cv) : Dp K H cv (dCh c) := by
  obtain ⟨x, y, xs, rfl, h2, h3, h4⟩ := h
  exact .tup (SqT.of h2) (.cons (.int _) (.cons (.int _) (.cons (dpNV _) (.cons (.tup (SqT.of h3) (dpWs h4)) .nil))))
theorem ws_data (ws : List (Nat × Option Nat)) : PyData.canLayAll0 (ws.map dWin) = true ∧ PyData.depthAll (ws.map dWin) ≤ 1 ∧ PyData.eqvAll (ws.map dWin) (ws.map dWin) = true := by
  induction ws with
  | nil => exact ⟨rfl, Nat.zero_le _, rfl⟩
  | cons w ws ih =>
    obtain ⟨lo, o⟩ := w
    refine ⟨?_, ?_, ?_⟩
    · show (PyData.canLay0 (dWin (lo, o)) && PyData.canLayAll0 (ws.map dWin)) = true
      rw [ih.1]
      cases o <;> rfl
    · show max (PyData.depth (dWin (lo, o))) (PyData.depthAll (ws.map dWin)) ≤ 1
      refine Nat.max_le.mpr ⟨?_, ih.2.1⟩
      cases o <;> exact Nat.le_refl 1
    · show (PyData.eqv (dWin (lo, o)) (dWin (lo, o)) && PyData.eqvAll (ws.map dWin) (ws.map dWin)) = true
      rw [ih.2.2]
      cases o <;> simp [dWin, dNV, PyData.eqv, PyData.eqvAll]
theorem wsT_shaped (ws : List (Nat × Option Nat)) : SeqAt.shaped (.tuple (ws.map dWin)) = true := by
  unfold SeqAt.shaped
  have h3 : PyData.canLay0 (.tuple (ws.map dWin)) = true := (ws_data ws).1
  have h4 : PyData.depth (.tuple (ws.map dWin)) ≤ 64 := by
    show PyData.depthAll (ws.map dWin) + 1 ≤ 64
    have := (ws_data ws).2.1
    omega
  rw [h3, decide_eq_true h4]
  rfl
theorem ch_shaped (c : Ch) : SeqAt.shaped (dCh c) = true ∧ PyData.eqv (dCh c) (dCh c) = true := by
  have l3 : PyData.canLay0 (.tuple (c.ws.map dWin)) = true := (ws_data c.ws).1
  have d3 := (ws_data c.ws).2.1
  have e3 : PyData.eqv (.tuple (c.ws.map dWin)) (.tuple (c.ws.map dWin)) = true := by
    rw [PyData.eqv]
    exact (ws_data c.ws).2.2
  constructor
  · unfold SeqAt.shaped
    have h3 : PyData.canLay0 (dCh c) = true := by
      show (true && (true && (PyData.canLay0 (dNV c.b) && (PyData.canLay0 (.tuple (c.ws.map dWin)) && true)))) = true
      rw [l3]
      cases c.b <;> rfl
    have h4 : PyData.depth (dCh c) ≤ 64 := by
      have hb : PyData.depth (dNV c.b) = 0 := by cases c.b <;> rfl
      show max 0 (max 0 (max (PyData.depth (dNV c.b)) (max (PyData.depthAll (c.ws.map dWin) + 1) 0))) + 1 ≤ 64
      rw [hb]
      omega
    rw [h3, decide_eq_true h4]
    rfl
  · have hb : PyData.eqv (dNV c.b) (dNV c.b) = true := by cases c.b <;> simp [dNV, PyData.eqv]
    show PyData.eqv (.tuple _) (.tuple _) = true
    rw [PyData.eqv]
    show (PyData.eqv (.int (c.g : Int)) (.int (c.g : Int)) && (PyData.eqv (.int (c.p : Int)) (.int (c.p : Int)) && (PyData.eqv (dNV c.b) (dNV c.b) && (PyData.eqv (.tuple (c.ws.map dWin)) (.tuple (c.ws.map dWin)) && PyData.eqvAll [] [])))) = true
    rw [hb, e3]
    simp [PyData.eqv, PyData.eqvAll]
def C1 (K : PySem.W.Frag) (T a : Addr) (ns : List Int) (_ : Nat) (σ : L2.St) (H : Hp) : Prop := ∃ c p e cv ys r, Ctx K T a ns c p e cv ys σ H ∧ σ[4]? = some (some (.ref r)) ∧ HdAt p H c r
def C2 (K : PySem.W.Frag) (T a : Addr) (ns : List Int) (_ : Nat) (σ : L2.St) (H : Hp) : Prop := ∃ c p e cv ys r z, Ctx K T a ns c p e cv ys σ H ∧ σ[4]? = some (some (.ref r)) ∧ HdAt p H c r ∧ σ[5]? = some (some (.ref z)) ∧ ColsAt p H c z
theorem ti_handed (G : Mg mg) : Ti (LX P w K mg base fa cdv s0 H0) (forS 3) (B3 K T a ns) (C1 K T a ns) := by
  refine ⟨_, ps_set (i := 4) scLaw.nd rfl (.inl rfl) (pe_lst (pa_cons (pe_ix ix_tup (pv 2) pe_int (fun _ _ => rfl)) (pa_cons (pe_ix ix_tup (pv 2) pe_int (fun _ _ => rfl)) (pa_cons (pe_ix ix_tup (pv 2) pe_int (fun _ _ => rfl)) (pa_cons
    (pe_lc (own := [("_law_window", 18)]) (te := tCB (rListOf K) (tCons (tVar 18) tNil)) (by rfl) scLaw.nd (pi_seq (pe_ix ix_tup (pv 2) pe_int (fun _ _ => rfl))) (blkOk_by (own := [("_law_window", 18)]) (N := lawN) (sc := defScope sLaw) (by decide +kernel))
            (fun _ _ _ _ _ => pg_name (i := 18) scLaw.nd rfl (.inl rfl)) (fun _ _ _ _ _ => pts_nil) (fun _ _ _ _ _ => pe_callTy (T := "list") call_list_of (by rfl) G.list (by decide +kernel) (pa_cons (pv 18) pa_nil))) pa_nil))))), fun i D σ H hA kk => ?_⟩
  obtain ⟨c, p, e, cv, ys, x⟩ := hA
  have hc := x.hc
  obtain ⟨ca, cb, xs, rfl, h2, h3, h4⟩ := hc
  have hxl : c.ws.length = xs.length := Paired.length h4
  have wl := x.sm.wl
  have i0 : atI [V.int c.g, V.int c.p, nonV c.b, .ref cb] ((0 : Nat) : Int) = some (V.int c.g) := atI_nat rfl
  have i1 : atI [V.int c.g, V.int c.p, nonV c.b, .ref cb] ((1 : Nat) : Int) = some (V.int c.p) := atI_nat rfl
  have i2 : atI [V.int c.g, V.int c.p, nonV c.b, .ref cb] ((2 : Nat) : Int) = some (nonV c.b) := atI_nat rfl
  have i3 : atI [V.int c.g, V.int c.p, nonV c.b, .ref cb] ((3 : Nat) : Int) = some (.ref cb) := atI_nat rfl
  refine ⟨_, x.v2, ca, _, 0, _, rfl, rfl, SqT.of h2, i0, _, x.v2, ca, _, 1, _, rfl, rfl, SqT.of h2, i1, _, x.v2, ca, _, 2, _, rfl, rfl, SqT.of h2, i2, ?_⟩
  refine ⟨_, x.v2, ca, _, 3, _, rfl, rfl, SqT.of h2, i3, cb, xs, rfl, .inl (SqT.of h3), fun J Gd wk hG D' hD => ?_⟩
  refine lc_gen wk (fun m H' acc => (∃ z, H' D' = some (.lst z)) ∧ Paired (fun (w : Nat × Option Nat) (v : V) => ∃ b, v = .ref b ∧ b ≠ D' ∧ H b = none ∧ H' b = some (.lst [.int (w.1 : Nat), nonV w.2])) (c.ws.take m) acc) (by omega) hD (fun m H xs ys acc h r => ?_) ⟨⟨[], upd_same⟩, .nil⟩ hG ?_ ?_
  · exact ⟨⟨ys, upd_same⟩, Paired.mapP r.2 fun p v ⟨b, h1, h2, h4, h3⟩ => ⟨b, h1, h2, h4, by rw [upd_ne h2]; exact h3⟩⟩
  · intro m y Ha Hb acc hi ex yy hR Qy Qn hy hn
    obtain ⟨rfl, hx⟩ := yy
    obtain ⟨⟨z, hz⟩, hR⟩ := hR
    obtain ⟨w1, hwL, b, rfl, hb⟩ := Paired.at h4 hx
    have tk : c.ws.take (m + 1) = c.ws.take m ++ [w1] := by rw [List.take_add_one, hwL]; rfl
    refine ⟨wipe1, yes_then ⟨.ref b, wipe_at (by rw [x.len]; decide), b, [.int (w1.1 : Nat), nonV w1.2], rfl, .inr (SqT.of (ex _ _ hb)), fun r hr => hy _ _ (Ex.new hr) ?_⟩⟩
    rw [tk]
    exact ⟨⟨z, Ex.new hr _ _ hz⟩, Paired.app (Paired.mapP hR fun p v ⟨b, h1, h2, h4, h3⟩ => ⟨b, h1, h2, h4, Ex.new hr _ _ h3⟩) (.cons ⟨r, rfl, (fun e => by rw [e, hz] at hr; cases hr), fresh_back ex hr, upd_same⟩ .nil)⟩
  · intro H4 acc e4 hD4 hR
    rw [← hxl, List.take_length] at hR
    refine ⟨by show 4 ≤ sizeLine; decide, fun r hr => ?_⟩
    have e5 := Ex.new hr (o := .lst [V.int c.g, V.int c.p, nonV c.b, .ref D'])
    refine kk _ _ ⟨c, p, e, .ref ca, ys, r, (x.ex (e4.trans e5)).set (by decide), sl_eq (by rw [x.len]; decide), Hs.new x.hs (fresh_back e4 hr), D', acc, upd_same, Hs.new x.hs hD, e5 _ _ hD4, Paired.mapP hR.2 fun w v ⟨b, h1, h2, h4, h3⟩ => ⟨b, h1, Hs.new x.hs h4, e5 _ _ h3⟩⟩
theorem ti_same (hr : Room 9 (LX P w K mg base fa cdv s0 H0).A) (C : Cal P w K mg base "check_chain" ["value"] sCheckChain 8 (spChk K T) fCk dCk) : Ti (LX P w K mg base fa cdv s0 H0) (forS 4) (C1 K T a ns) (C1 K T a ns) := by
  have hu : (LX P w K mg base fa cdv s0 H0).A.units + 64 < cLine := hr.units
  refine ⟨_, ps_if (pt_cmpR (op_neD hu) (pe_call C.ok (hr.mono (by decide)) (by rfl) C.ns.mg C.ns.fn.kp C.ns.bd .nil pass0 (pa_cons (pv 4) pa_nil)) (pv 2) (nomark _)) (pss_one (ps_ret pe_bl)) pss_nil, fun i D σ H hA kk => ?_⟩
  obtain ⟨c, p, e, cv, ys, r, x, v4, hd⟩ := hA
  refine ⟨_, v4, c, .ref r, rfl, x.sm.ok, hd.che, x.hs.tab, fun q H1 hq e1 hc1 => ?_⟩
  have s1 := x.hs.exT e1
  have x1 := x.step s1
  refine ⟨_, x.v2, dCh c, dCh c, dpCh hc1, dpCh x1.hc, (ch_shaped c).1, (ch_shaped c).1, _, rfl, ?_⟩
  rw [(ch_shaped c).2]
  refine ite2 (fun z => nomatch z) fun _ => kk _ _ ⟨c, p, e, cv, ys, r, x1, v4, hd.stp x.hs s1⟩
theorem ti_columns (hso : mg "sorted" = none) (G : Mg mg) : Ti (LX P w K mg base fa cdv s0 H0) (forS 5) (C1 K T a ns) (C2 K T a ns) := by
  refine ⟨_, ps_setLc (i := 5) (own := [("_law_at", 9)]) (te := tSortSet K (tLc (iSeq K (tVar 3)) (gName 12) tYes (tOp (rIxT K) (tVar 12) (tVar 9)) [12])) (by rfl) scLaw.nd rfl rfl (sw_true rfl rfl rfl (by decide +kernel))
      (pi_range1 (by rfl) G.range (pa_cons (pe_callB call_len (by rfl) G.len boot_len (pa_cons (pe_ix ix_tup (pv 2) pe_int (fun _ _ => rfl)) pa_nil)) pa_nil)) (blkOk_by (own := [("_law_at", 9)]) (N := lawN) (sc := defScope sLaw) (by decide +kernel))
      (fun _ _ _ _ _ => pg_name (i := 9) scLaw.nd rfl (.inr rfl)) (fun _ _ _ _ _ => pts_nil)
      (fun _ _ _ _ _ => pe_sortSet (by rfl) hso (by rfl) G.set (pe_lc (own := [("_law_line", 12)]) (te := tOp (rIxT K) (tVar 12) (tVar 9)) (by rfl) scLaw.nd (pi_seq (pv 3))
          (blkOk_by (own := [("_law_line", 12)]) (N := lawN) (sc := { kind := .function, names := [(".0", .local), ("_law_at", .cell), ("sorted", .globalImplicit), ("set", .globalImplicit), ("_law_lines", .cell)], isGenerator := false, isCoroutine := false }) (by decide +kernel))
          (fun _ _ _ _ _ => pg_name (i := 12) scLaw.nd rfl (.inl rfl)) (fun _ _ _ _ _ => pts_nil) (fun _ _ _ _ _ => pe_ix ix_tup (pv 12) (pv 9) (fun _ _ => rfl)))), fun i D σ H hA kk => ?_⟩
  obtain ⟨c, p, e, cv, ys, r, x, v4, hd⟩ := hA
  have hc := x.hc
  obtain ⟨ca, cb, xs, rfl, h2, h3, h4⟩ := hc
  have hxl : c.ws.length = xs.length := Paired.length h4
  have hyl : c.lines.length = ys.length := Paired.length x.hl
  have hln := x.hn
  have wl := x.sm.wl
  have i3 : atI [V.int c.g, V.int c.p, nonV c.b, .ref cb] ((3 : Nat) : Int) = some (.ref cb) := atI_nat rfl
  refine ⟨_, x.v2, ca, _, 3, _, rfl, rfl, SqT.of h2, i3, .ref cb, xs.length, rfl, .inr ⟨xs, SqT.of h3, rfl⟩, (xs.length : Int), rfl, by omega, by omega, fun D' hD => ?_⟩
  refine lc_gen walk_range (fun j H' acc => (∃ z, H' D' = some (.lst z)) ∧ Paired (fun (o : Option (Int × Int)) (v : V) => ∃ q, v = .ref q ∧ q ≠ D' ∧ q ≠ p ∧ H' q = some (.lst ((lst o).map V.int)) ∧ OkO o) (c.cols.take j) acc) (by rw [Int.toNat_natCast]; omega) hD (fun m H xs ys acc h r => ?_) ⟨⟨[], upd_same⟩, .nil⟩ (fun _ _ => True.intro) ?_ ?_
  · exact ⟨⟨ys, upd_same⟩, Paired.mapP r.2 fun p v ⟨b, h1, h2, h4, h3⟩ => ⟨b, h1, h2, h4, by rw [upd_ne h2]; exact h3⟩⟩
  · intro j y Ha Hb acc hj ex yy hR Qy Qn hy hn
    obtain ⟨rfl, rfl⟩ := yy
    obtain ⟨⟨z, hz⟩, hR⟩ := hR
    have hj2 : j < c.ws.length := by rw [Int.toNat_natCast] at hj; omega
    refine ⟨wipe1, yes_then ?_⟩
    have len9 : ((wipe σ [9]).set 9 (some (.int (0 + (j : Int))))).length = 19 := wipe_len.trans x.len
    refine ⟨.ref e, wipe_ne x.v3 (by decide), e, ys, rfl, .inr (SqL.of (ex _ _ x.he)), fun J Gd wk hG D2 hD2 => ?_⟩
    refine lc_gen wk (fun m H' acc2 => acc2 = (c.lines.take m).map fun l => V.int (l.getD j 0)) (by omega) hD2 (fun m H xs ys acc h r => r) rfl hG ?_ ?_
    · intro m yv Hc Hd acc2 hm ex2 yy hR2 Qy2 Qn2 hy2 hn2
      obtain ⟨rfl, hx⟩ := yy
      obtain ⟨l, hlL, q, rfl, hq⟩ := Paired.at x.hl hx
      have hmem : l ∈ c.lines := List.mem_of_getElem? hlL
      have hll := (line_small x.sm hmem).1
      have tk : c.lines.take (m + 1) = c.lines.take m ++ [l] := by rw [List.take_add_one, hlL]; rfl
      have lj : (l.map V.int)[j]? = some (V.int (l.getD j 0)) := by rw [List.getElem?_map, List.getD_eq_getElem?_getD, List.getElem?_eq_getElem (by omega)]; rfl
      have ej : (0 : Int) + (j : Int) = ((j : Nat) : Int) := by omega
      refine ⟨wipe1, yes_then ⟨.ref q, wipe_at (Nat.lt_of_lt_of_eq (show 12 < 19 by decide) len9.symm), _, wipe_ne (wipe_at (by rw [x.len]; decide)) (by decide), q, l.map V.int, (0 : Int) + (j : Int), V.int (l.getD j 0), rfl, rfl, SqT.of ((ex.trans ex2) _ _ hq), by rw [ej]; exact atI_nat lj, hy2 _ _ (Ex.refl _) ?_⟩⟩
      rw [tk, hR2, List.map_append]
      rfl
    · intro H4 acc2 e4 hD4 hR2
      rw [← hyl, List.take_length] at hR2
      have em : acc2 = (c.col j).map V.int := by rw [hR2]; unfold Ch.col; rw [List.map_map]; rfl
      rw [em] at hD4
      refine ⟨D2, c.col j, rfl, SqL.of hD4, by unfold Ch.col; rw [List.length_map]; omega, fun k hk => ?_, fun ms q hs hm hq => ?_⟩
      · unfold Ch.col at hk
        obtain ⟨l, hl, rfl⟩ := List.mem_map.mp hk
        have hls := line_small x.sm hl
        have hm2 : l.getD j 0 ∈ l := by
          rw [List.getD_eq_getElem?_getD, List.getElem?_eq_getElem (by omega)]
          exact List.getElem_mem _
        have := hls.2 _ hm2
        omega
      · obtain ⟨o, ho, rfl, ok⟩ := col_is x.sm hj2 hs hm
        have e5 := Ex.new hq (o := .lst ((lst o).map V.int))
        have e45 := e4.trans e5
        have tk : c.cols.take (j + 1) = c.cols.take j ++ [o] := by rw [List.take_add_one, ho]; rfl
        refine hy _ _ e45 ⟨⟨z, e45 _ _ hz⟩, ?_⟩
        rw [tk]
        refine Paired.app (Paired.mapP hR fun p v ⟨b, h1, h2, h4, h3, h5⟩ => ⟨b, h1, h2, h4, e45 _ _ h3, h5⟩) (.cons ⟨q, rfl, fun y => ?_, Hs.new x.hs (fresh_back (ex.trans e4) hq), upd_same, ok⟩ .nil)
        have := e4 _ _ hz
        rw [y, this] at hq
        cases hq
  · intro H4 acc e4 hD4 hR
    have tl : c.cols.take ((xs.length : Nat) : Int).toNat = c.cols := by rw [Int.toNat_natCast, ← hxl, ← cols_len, List.take_length]
    rw [tl] at hR
    refine kk _ _ ⟨c, p, e, .ref ca, ys, r, D', (x.ex e4).set (by decide), sl_ne v4 (by decide), hd.stp x.hs (x.hs.ex e4), sl_eq (by rw [x.len]; decide), Hs.new x.hs hD, acc, hD4, Paired.mapP hR.2 fun o v ⟨q, h1, h2, h4, h3, h5⟩ => ⟨q, h1, h4, h3, h5⟩⟩
end
end K04
set_option Elab.async false
set_option linter.all false
set_option maxRecDepth 100000
set_option maxHeartbeats 4000000
namespace K04
open PySem PySem.Spec PyProof.Rows L2 GxR Pu Evl
abbrev Rs := Option (List (Int × Int))
def RF (c : Ch) (r : Rs) : Prop := (Chn.Full c.bck → r = some c.bck) ∧ (¬ Chn.Full c.bck → r = none)
def ResS (H : Hp) : Rs → V → Prop
  | none, v => v = .non
  | some L, v => ∃ q ys, v = .ref q ∧ H q = some (.tup ys) ∧ StrT H L ys
def ResI (pr : Int × Int → Int) (H : Hp) : Rs → V → Prop
  | none, v => v = .non
  | some L, v => ∃ q, v = .ref q ∧ H q = some (.tup (intsOf pr L))
def dPI (s : Int × Int) : PyData := .tuple [.int s.1, .int s.2]
def dStr : Rs → PyData
  | none => .none
  | some L => .tuple (L.map dPI)
def dIn (pr : Int × Int → Int) : Rs → PyData
  | none => .none
  | some L => .tuple (L.map fun s => .int (pr s))
def OkL (r : Rs) : Prop := ∀ L, r = some L → L.length ≤ 4 ∧ ∀ s ∈ L, (0 ≤ s.1 ∧ s.1 ≤ 25) ∧ (0 ≤ s.2 ∧ s.2 ≤ 25)
theorem rf_ex (c : Ch) : ∃ r, RF c r := by
  by_cases f : Chn.Full c.bck
  · exact ⟨some c.bck, fun _ => rfl, fun z => absurd f z⟩
  · exact ⟨none, fun z => absurd z f, fun _ => rfl⟩
theorem RF.ok {c : Ch} {r : Rs} (sm : c.Small) (h : RF c r) : OkL r := by
  intro L e
  by_cases f : Chn.Full c.bck
  · rw [h.1 f] at e
    cases e
    refine ⟨by rw [bck_len']; exact sm.wl, bck_small sm f⟩
  · rw [h.2 f] at e
    cases e
theorem ResS.ex {H H' : Hp} {r : Rs} {v : V} (h : ResS H r v) (e : Ex H H') : ResS H' r v := by
  match r, h with
  | none, h => exact h
  | some L, ⟨q, ys, h1, h2, h3⟩ => exact ⟨q, ys, h1, e _ _ h2, h3.ex e⟩
theorem ResI.ex {pr : Int × Int → Int} {H H' : Hp} {r : Rs} {v : V} (h : ResI pr H r v) (e : Ex H H') : ResI pr H' r v := by
  match r, h with
  | none, h => exact h
  | some L, ⟨q, h1, h2⟩ => exact ⟨q, h1, e _ _ h2⟩
section
variable {K : PySem.W.Frag} {T a p : Addr} {ns : List Int} {H H' : Hp}
theorem ResS.stp {r : Rs} {v : V} (hs : Hs K T a ns p H) (s : Stp T p H H') (h : ResS H r v) : ResS H' r v := by
  match r, h with
  | none, h => exact h
  | some L, ⟨q, ys, h1, h2, h3⟩ => exact ⟨q, ys, h1, s.tup hs h2, Paired.mapP h3 fun _ _ ⟨b, k1, k2⟩ => ⟨b, k1, s.tup hs k2⟩⟩
theorem ResI.stp {pr : Int × Int → Int} {r : Rs} {v : V} (hs : Hs K T a ns p H) (s : Stp T p H H') (h : ResI pr H r v) : ResI pr H' r v := by
  match r, h with
  | none, h => exact h
  | some L, ⟨q, h1, h2⟩ => exact ⟨q, h1, s.tup hs h2⟩
theorem dpStr {r : Rs} {v : V} (h : ResS H r v) : Dp K H v (dStr r) := by
  match r, h with
  | none, h => cases h; exact .non
  | some L, ⟨q, ys, h1, h2, h3⟩ =>
    subst h1
    refine .tup (SqT.of h2) ?_
    clear h2
    induction h3 with
    | nil => exact .nil
    | cons r t ih =>
      obtain ⟨b, rfl, hb⟩ := r
      exact .cons (.tup (SqT.of hb) (.cons (.int _) (.cons (.int _) .nil))) ih
theorem dpIn {pr : Int × Int → Int} {r : Rs} {v : V} (h : ResI pr H r v) : Dp K H v (dIn pr r) := by
  match r, h with
  | none, h => cases h; exact .non
  | some L, ⟨q, h1, h2⟩ =>
    subst h1
    refine .tup (SqT.of h2) ?_
    clear h2
    unfold intsOf
    induction L with
    | nil => exact .nil
    | cons s L ih => exact .cons (.int _) ih
end
theorem smStr {r : Rs} (h : OkL r) : Sm 2 12 (dStr r) := by
  cases r with
  | none => exact Sm.none.mono (by decide) (by decide)
  | some L =>
    have hh := h L rfl
    refine Sm.tup (c := 4) (m := 2) (fun d hd => ?_) (by rw [List.length_map]; exact hh.1)
    obtain ⟨s, hs, rfl⟩ := List.mem_map.mp hd
    have b := hh.2 s hs
    refine Sm.tup (c := 2) (m := 0) (fun d hd => ?_) (Nat.le_refl _)
    rcases List.mem_cons.mp hd with z | hd
    · rw [z]; exact Sm.intI (a := s.1) b.1.1 (by have := b.1.2; omega)
    · rw [List.mem_singleton.mp hd]; exact Sm.intI (a := s.2) b.2.1 (by have := b.2.2; omega)
theorem smIn {pr : Int × Int → Int} (hp : pr = (·.1) ∨ pr = (·.2)) {r : Rs} (h : OkL r) : Sm 1 4 (dIn pr r) := by
  cases r with
  | none => exact Sm.none.mono (by decide) (by decide)
  | some L =>
    have hh := h L rfl
    refine Sm.tup (c := 4) (m := 0) (fun d hd => ?_) (by rw [List.length_map]; exact hh.1)
    obtain ⟨s, hs, rfl⟩ := List.mem_map.mp hd
    have b := hh.2 s hs
    rcases hp with rfl | rfl
    · exact Sm.intI (a := s.1) b.1.1 (by have := b.1.2; omega)
    · exact Sm.intI (a := s.2) b.2.1 (by have := b.2.2; omega)
def spStm2 (K : PySem.W.Frag) (T : Addr) : Sp := fun vs H Q _ => ∃ (c : Ch) (v : V) (r : Rs), vs = [v] ∧ c.Ok ∧ ChE K H c v ∧ TabG H T ∧ RF c r ∧ ∀ u H', ExT T H H' → ResS H' r u → Q u H'
def spInts2 (K : PySem.W.Frag) (T : Addr) (pr : Int × Int → Int) : Sp := fun vs H Q _ => ∃ (c : Ch) (v : V) (r : Rs), vs = [v] ∧ c.Ok ∧ ChE K H c v ∧ TabG H T ∧ RF c r ∧ ∀ u H', ExT T H H' → ResI pr H' r u → Q u H'
theorem stm2 {K : PySem.W.Frag} {T : Addr} {vs : List V} {H : Hp} {Q : VK} {E : XK} (h : spStm2 K T vs H Q E) : spStm K T vs H Q E := by
  obtain ⟨c, v, r, e, ok, hc, ht, rf, k⟩ := h
  refine ⟨c, v, e, ok, hc, ht, fun nf H' e1 => k _ _ e1 ?_, fun fu q ys H' _ e1 h1 h2 => k _ _ e1 ?_⟩
  · rw [rf.2 nf]; rfl
  · rw [rf.1 fu]; exact ⟨q, ys, rfl, h1, h2⟩
theorem ints2 {K : PySem.W.Frag} {T : Addr} {pr : Int × Int → Int} {vs : List V} {H : Hp} {Q : VK} {E : XK} (h : spInts2 K T pr vs H Q E) : spInts K T pr vs H Q E := by
  obtain ⟨c, v, r, e, ok, hc, ht, rf, k⟩ := h
  refine ⟨c, v, e, ok, hc, ht, fun nf H' e1 => k _ _ e1 ?_, fun fu q H' _ e1 h1 => k _ _ e1 ?_⟩
  · rw [rf.2 nf]; rfl
  · rw [rf.1 fu]; exact ⟨q, rfl, h1⟩
theorem ir_len {a b : Int} (h : a ≤ b) : (Chn.ir a b).length = (b - a).toNat + 1 := by
  unfold Chn.ir
  rw [Chn.irn_len]
  omega
theorem ir_at {a b : Int} {j : Nat} (h : (j : Int) ≤ b - a) : ((Chn.ir a b).map V.int)[j]? = some (.int (a + j)) := by
  unfold Chn.ir Chn.irn
  rw [List.getElem?_map, List.getElem?_map, List.getElem?_range (by omega)]
  rfl
theorem rgV_ir (a b : Int) : rgV a (b + 1) = (Chn.ir a b).map V.int := by
  unfold rgV Chn.ir Chn.irn
  rw [List.map_map]
  rfl
theorem ir_ends {a b : Int} (h : a ≤ b) : atI ((Chn.ir a b).map V.int) ((0 : Nat) : Int) = some (V.int a) ∧ atI ((Chn.ir a b).map V.int) ((((Chn.ir a b).map V.int).length : Int) - 1) = some (V.int b) := by
  refine ⟨atI_nat (by rw [ir_at (by omega)]; simp), ?_⟩
  have em : (((Chn.ir a b).map V.int).length : Int) - 1 = (((b - a).toNat : Nat) : Int) := by rw [List.length_map, ir_len h]; omega
  rw [em]
  refine atI_nat ?_
  rw [ir_at (by omega)]
  congr 3
  omega
def dLines (F : List (List Int)) : PyData := .list (F.map dInts)
theorem dpLines {K : PySem.W.Frag} {H : Hp} {D : Addr} {F : List (List Int)} {ys : List V} (hD : H D = some (.lst ys)) (h : LnT H F ys) : Dp K H (.ref D) (dLines F) := by
  refine .lst (SqL.of hD) ?_
  clear hD
  induction h with
  | nil => exact .nil
  | cons r t ih =>
    obtain ⟨q, rfl, hq⟩ := r
    exact .cons (dpInts hq) ih
theorem lines_shaped (F : List (List Int)) : SeqAt.shaped (dLines F) = true := by
  have one : ∀ l : List Int, PyData.canLayAll0 (l.map PyData.int) = true ∧ PyData.depthAll (l.map PyData.int) = 0 := fun l => by
    induction l with
    | nil => exact ⟨rfl, rfl⟩
    | cons x l ih => exact ⟨by show (PyData.canLay0 (.int x) && PyData.canLayAll0 (l.map PyData.int)) = true; rw [ih.1]; rfl, by show max 0 (PyData.depthAll (l.map PyData.int)) = 0; rw [ih.2]; rfl⟩
  have all : PyData.canLayAll0 (F.map dInts) = true ∧ PyData.depthAll (F.map dInts) ≤ 1 := by
    induction F with
    | nil => exact ⟨rfl, Nat.zero_le _⟩
    | cons l F ih =>
      refine ⟨?_, ?_⟩
      · show (PyData.canLayAll0 (l.map PyData.int) && PyData.canLayAll0 (F.map dInts)) = true
        rw [(one l).1, ih.1]
        rfl
      · show max (PyData.depthAll (l.map PyData.int) + 1) (PyData.depthAll (F.map dInts)) ≤ 1
        rw [(one l).2]
        exact Nat.max_le.mpr ⟨Nat.le_refl 1, ih.2⟩
  unfold SeqAt.shaped
  have h3 : PyData.canLay0 (dLines F) = true := all.1
  have h4 : PyData.depth (dLines F) ≤ 64 := by
    show PyData.depthAll (F.map dInts) + 1 ≤ 64
    have := all.2
    omega
  rw [h3, decide_eq_true h4]
  rfl
theorem lines_nil (F : List (List Int)) : PyData.eqv (dLines F) (.list []) = F.isEmpty := by cases F <;> rfl
/-- what is due: by row the least and the greatest stamp -/
def Du (K : PySem.W.Frag) (T a : Addr) (ns : List Int) (c : Ch) (p e : Addr) (cv : V) (ys : List V) (r z : Addr) (rs : Rs) (v : V) (σ : L2.St) (H : Hp) : Prop := Ctx K T a ns c p e cv ys σ H ∧ σ[4]? = some (some (.ref r)) ∧ HdAt p H c r ∧ σ[5]? = some (some (.ref z)) ∧ ColsAt p H c z ∧ RF c rs ∧ σ[6]? = some (some v) ∧ ResS H rs v
def D1 (K : PySem.W.Frag) (T a : Addr) (ns : List Int) (_ : Nat) (σ : L2.St) (H : Hp) : Prop := ∃ c p e cv ys r z rs v, Du K T a ns c p e cv ys r z rs v σ H
section
variable {P : Program} {w : World} {K : PySem.W.Frag} {mg : Str → Option Value} {base : Heap} {T a fa : Addr} {ns : List Int} {cdv : Value} {s0 : Shared} {H0 : Hp} {c : Ch} {p e : Addr} {cv : V} {ys : List V} {σ : L2.St} {H H' : Hp}
variable {fSt fLe fLa : Addr} {dSt dLe dLa : FuncData}
theorem Du.stp {r z : Addr} {rs : Rs} {v : V} (h : Du K T a ns c p e cv ys r z rs v σ H) (s : Stp T p H H') : Du K T a ns c p e cv ys r z rs v σ H' := by
  obtain ⟨x, v4, hd, v5, co, rf, v6, rv⟩ := h
  exact ⟨x.step s, v4, hd.stp x.hs s, v5, co.stp x.hs s, rf, v6, rv.stp x.hs s⟩
theorem Du.ex {r z : Addr} {rs : Rs} {v : V} (h : Du K T a ns c p e cv ys r z rs v σ H) (e' : Ex H H') : Du K T a ns c p e cv ys r z rs v σ H' := h.stp (h.1.hs.ex e')
theorem Du.set {r z : Addr} {rs : Rs} {v : V} (h : Du K T a ns c p e cv ys r z rs v σ H) {i : Nat} {u : Option V} (hi : 7 ≤ i) : Du K T a ns c p e cv ys r z rs v (σ.set i u) H := by
  obtain ⟨x, v4, hd, v5, co, rf, v6, rv⟩ := h
  exact ⟨x.set (by omega), sl_ne v4 (by omega), hd, sl_ne v5 (by omega), co, rf, sl_ne v6 (by omega), rv⟩
theorem ti_due (hr : Room 9 (LX P w K mg base fa cdv s0 H0).A) (G : Mg mg) : Ti (LX P w K mg base fa cdv s0 H0) (forS 6) (C2 K T a ns) (D1 K T a ns) := by
  have hu : (LX P w K mg base fa cdv s0 H0).A.units + 64 < cLine := hr.units
  refine ⟨_, ps_set (i := 6) scLaw.nd rfl (.inl rfl) (pe_ifExp (pt_cmpR (op_neD hu) (pv 3) (pe_lst pa_nil) (nomark _)) (pe_callTy call_tuple_of (by rfl) G.tuple (by decide +kernel) (pa_cons
    (pe_lc (own := [("_law_some", 11)]) (te := tTup (tCons (tOp (rIxL K) (tVar 11) (tC (.int 0))) (tCons (tOp (rIxL K) (tVar 11) (tOp (rI0 fun i j => .int (i - j)) (tCB (rLen K) (tCons (tVar 11) tNil)) (tC (.int 1)))) tNil))) (by rfl) scLaw.nd (pi_seq (pv 5)) (blkOk_by (own := [("_law_some", 11)]) (N := lawN) (sc := defScope sLaw) (by decide +kernel))
      (fun _ _ _ _ _ => pg_name (i := 11) scLaw.nd rfl (.inl rfl)) (fun _ _ _ _ _ => pts_nil) (fun _ _ _ _ _ => pe_tup (pa_cons (pe_ix ix_list (pv 11) pe_int (fun _ _ => rfl)) (pa_cons (pe_ix ix_list (pv 11) (pe_op op_sub (pe_callB call_len (by rfl) G.len boot_len (pa_cons (pv 11) pa_nil)) pe_int) (fun _ _ => rfl)) pa_nil)))) pa_nil)) pe_non), fun i D σ H hA kk => ?_⟩
  obtain ⟨c, p, e, cv, ys, r, z, x, v4, hd, v5, co⟩ := hA
  refine ⟨.ref e, x.v3, by show 0 ≤ sizeLine; decide, fun q hq => ?_⟩
  have e1 := Ex.new (H := H) (o := .lst []) hq
  have x1 := x.ex e1
  refine ⟨dLines c.lines, .list [], dpLines x1.he x1.hl, .lst (SqL.of upd_same) .nil, lines_shaped _, rfl, _, rfl, ?_⟩
  rw [lines_nil]
  obtain ⟨rs, rf⟩ := rf_ex c
  have fin : ∀ v H3, Ex H H3 → ResS H3 rs v → D.nx (σ.set 6 (some v)) H3 := fun v H3 e3 hv => kk _ _ ⟨c, p, e, cv, ys, r, z, rs, v, (x.ex e3).set (by decide), sl_ne v4 (by decide), hd.stp x.hs (x.hs.ex e3), sl_ne v5 (by decide), co.stp x.hs (x.hs.ex e3), rf, sl_eq (by rw [x.len]; decide), hv⟩
  by_cases f : Chn.Full c.bck
  · have hne : c.lines.isEmpty = false := by
      have := (full_iff x.sm).mp f
      cases h : c.lines with
      | nil => exact absurd h this
      | cons _ _ => rfl
    rw [hne]
    refine ite2 (fun _ => ?_) fun z => absurd rfl z
    have co1 := co.stp x.hs (x.hs.ex e1)
    obtain ⟨zp, cs, hz, hcs⟩ := co1
    have hco : c.cols = c.bck.map some := by unfold Ch.cols; rw [if_pos f]
    have hcl : c.bck.length = cs.length := by rw [bck_len', ← cols_len]; exact Paired.length hcs
    have wl := x.sm.wl
    have bl := bck_len' c
    refine one_cb ⟨.ref z, v5, z, cs, rfl, .inr (SqL.of hz), fun J Gd wk hG D' hD => ?_⟩
    refine lc_gen wk (fun m H' acc => StrT H' (c.bck.take m) acc) (by omega) hD (fun m H xs ys acc h r => r.upd h) .nil hG ?_ ?_
    · intro m y Ha Hb acc hi ex yy hR Qy Qn hy hn
      obtain ⟨rfl, hx⟩ := yy
      obtain ⟨o, hoL, q1, rfl, q2, hq1, ok⟩ := Paired.at hcs hx
      rw [hco, List.getElem?_map] at hoL
      obtain ⟨s, hs⟩ : ∃ s, c.bck[m]? = some s := ⟨c.bck[m], List.getElem?_eq_getElem (by omega)⟩
      rw [hs] at hoL
      cases hoL
      obtain ⟨lo, hi2⟩ := s
      have tk : c.bck.take (m + 1) = c.bck.take m ++ [(lo, hi2)] := by rw [List.take_add_one, hs]; rfl
      have hh := ok lo hi2 rfl
      obtain ⟨i0, i1⟩ := ir_ends hh.2.1
      have hq3 := ex _ _ hq1
      have at11 : ∀ y : V, ((wipe σ [11]).set 11 (some y))[11]? = some (some y) := fun y => wipe_at (by rw [x.len]; decide)
      refine ⟨wipe1, yes_then ⟨_, at11 _, q1, _, 0, _, rfl, rfl, SqL.of hq3, i0, _, at11 _, _, at11 _, .ref q1, _, rfl, .inl ⟨_, SqL.of hq3, rfl⟩, _, 1, rfl, rfl, q1, _, _, _, rfl, rfl, SqL.of hq3, i1, by show 2 ≤ sizeLine; decide, fun q4 hq4 => hy _ _ (Ex.new hq4) ?_⟩⟩
      rw [tk]
      exact (hR.ex (Ex.new hq4)).snoc upd_same
    · intro H4 acc e4 hD4 hR
      rw [← hcl, List.take_length] at hR
      refine ⟨D', acc, rfl, .inl ⟨SqL.of hD4, fun q hq => fin _ _ (e1.trans (e4.trans (Ex.new hq))) ?_⟩⟩
      rw [rf.1 f]
      exact ⟨q, acc, rfl, upd_same, hR.ex (Ex.new hq)⟩
  · have hne : c.lines.isEmpty = true := by
      have : c.lines = [] := Classical.byContradiction fun z => f ((full_iff x.sm).mpr z)
      rw [this]
      rfl
    rw [hne]
    refine ite2 (fun z => nomatch z) fun _ => fin _ _ e1 ?_
    rw [rf.2 f]
    rfl
end
end K04
set_option Elab.async false
set_option linter.all false
set_option maxRecDepth 100000
set_option maxHeartbeats 4000000
namespace K04
open PySem PySem.Spec PyProof.Rows L2 GxR Pu Evl
def D2 (K : PySem.W.Frag) (T a : Addr) (ns : List Int) (_ : Nat) (σ : L2.St) (H : Hp) : Prop := ∃ c p e cv ys r z rs v u, Du K T a ns c p e cv ys r z rs v σ H ∧ σ[7]? = some (some u) ∧ ResI (·.1) H rs u
def D3 (K : PySem.W.Frag) (T a : Addr) (ns : List Int) (_ : Nat) (σ : L2.St) (H : Hp) : Prop := ∃ c p e cv ys r z rs v u w, Du K T a ns c p e cv ys r z rs v σ H ∧ σ[7]? = some (some u) ∧ ResI (·.1) H rs u ∧ σ[8]? = some (some w) ∧ ResI (·.2) H rs w
theorem dIn_mem {L : List (Int × Int)} {pr : Int × Int → Int} {F : List (List Int)} (h : L.map pr ∈ F) : ((F.map dInts).any fun z => PyData.eqv z (dIn pr (some L))) = true := by
  rw [List.any_eq_true]
  refine ⟨dInts (L.map pr), List.mem_map.mpr ⟨_, h, rfl⟩, ?_⟩
  have e : dIn pr (some L) = dInts (L.map pr) := by
    show PyData.tuple (L.map fun s => .int (pr s)) = PyData.tuple ((L.map pr).map PyData.int)
    rw [List.map_map]
    rfl
  rw [e]
  show PyData.eqv (.tuple _) (.tuple _) = true
  rw [PyData.eqv]
  generalize L.map pr = l
  induction l with
  | nil => rfl
  | cons b l ih =>
    show (PyData.eqv (.int b) (.int b) && _) = true
    rw [ih]
    simp [PyData.eqv]
section
variable {P : Program} {w : World} {K : PySem.W.Frag} {mg : Str → Option Value} {base : Heap} {T a fa : Addr} {ns : List Int} {cdv : Value} {s0 : Shared} {H0 : Hp} {c : Ch} {p e : Addr} {cv : V} {ys : List V} {σ : L2.St} {H H' : Hp}
variable {fSt fLe fLa : Addr} {dSt dLe dLa : FuncData}
theorem ti_stamps (hr : Room 9 (LX P w K mg base fa cdv s0 H0).A) (G : Mg mg) (C : Cal P w K mg base "stamps" ["chain"] sStamps 9 (spStm2 K T) fSt dSt) (W : KwOk K dSt ["chain"] ["chain"] (perm [0]) (perm [0])) : Ti (LX P w K mg base fa cdv s0 H0) (forS 7) (D1 K T a ns) (D1 K T a ns) := by
  have hu : (LX P w K mg base fa cdv s0 H0).A.units + 64 < cLine := hr.units
  have hg : (LX P w K mg base fa cdv s0 H0).A.guards = some [] := rfl
  refine ⟨_, ps_if (pt_cmpR op_ne (pe_callB (cr_repr hu hg) (by rfl) G.repr boot_repr (pa_cons (pe_lst (pa_cons (pe_call C.ok hr (by rfl) C.ns.mg C.ns.fn.kp C.ns.bd .nil pass0 (pa_cons (pv 2) pa_nil))
    (pa_cons (pe_callW C.ok hr (by rfl) C.ns.mg C.ns.fn.kp W pass0 (pk_cons (pv 4) pk_nil)) pa_nil))) pa_nil))
    (pe_callB (cr_repr hu hg) (by rfl) G.repr boot_repr (pa_cons (pe_lst (pa_cons (pv 6) (pa_cons (pv 6) pa_nil))) pa_nil)) (nomark _)) (pss_one (ps_ret pe_bl)) pss_nil, fun i D σ H hA kk => ?_⟩
  obtain ⟨c, p, e, cv, ys, r, z, rs, v, du⟩ := hA
  have du0 := du
  obtain ⟨x, v4, hd, v5, co, rf, v6, rv⟩ := du0
  have okr : OkL rs := rf.ok x.sm
  refine ⟨_, x.v2, c, cv, rs, rfl, x.sm.ok, x.hc.e, x.hs.tab, rf, fun v1 H1 e1 a1 => ?_⟩
  have s1 := x.hs.exT e1
  have x1 := x.step s1
  refine ⟨_, v4, c, .ref r, rs, rfl, x.sm.ok, (hd.stp x.hs s1).che, s1.tab, rf, fun v2 H2 e2 a2 => ?_⟩
  have s2 := x1.hs.exT e2
  have x2 := x1.step s2
  have b1 := a1.stp x1.hs s2
  have b7 := (rv.stp x.hs s1).stp x1.hs s2
  have sm := Sm.two (smStr okr) (smStr okr)
  refine ⟨by show 2 ≤ sizeLine; decide, fun r1 hr1 => ?_⟩
  have e3 := Ex.new hr1 (o := .lst [v1, v2])
  refine ⟨_, .list [dStr rs, dStr rs], rfl, .lst (SqL.of upd_same) (.cons (dpStr (b1.ex e3)) (.cons (dpStr (a2.ex e3)) .nil)), rfl, sm.sh, sm.nd, sm.d60 (by decide), sm.len (by decide), ?_⟩
  refine ⟨_, v6, _, v6, by show 2 ≤ sizeLine; decide, fun r2 hr2 => ?_⟩
  have e4 := Ex.new hr2 (o := .lst [v, v])
  refine ⟨_, .list [dStr rs, dStr rs], rfl, .lst (SqL.of upd_same) (.cons (dpStr (b7.ex (e3.trans e4))) (.cons (dpStr (b7.ex (e3.trans e4))) .nil)), rfl, sm.sh, sm.nd, sm.d60 (by decide), sm.len (by decide), ?_⟩
  refine ⟨rfl, _, rfl, ite2 (fun z => absurd z (by simp)) fun _ => ?_⟩
  exact kk _ _ ⟨c, p, e, cv, ys, r, z, rs, v, du.stp ((s1.trans s2).trans (x2.hs.ex (e3.trans e4)))⟩
/-- tuple([one[k] for one in due]) if due is not None else None -/
theorem q_part {k : Nat} {pr : Int × Int → Int} (hk : (k = 0 ∧ pr = (·.1)) ∨ (k = 1 ∧ pr = (·.2))) {rs : Rs} {v : V} (len : σ.length = 19) (v6 : σ[6]? = some (some v)) (rv : ResS H rs v) (ok : OkL rs) {C : VK} (kk : ∀ u H3, Ex H H3 → ResI pr H3 rs u → C u H3) :
    tIf (tTest (tNotN (tVar 6))) (tCB (rTupleOf K) (tCons (tLc (iSeq K (tVar 6)) (gName 17) tYes (tOp (rIxT K) (tVar 17) (tC (.int (k : Int)))) [17]) tNil)) (tC .non) σ H C := by
  refine ⟨v, v6, _, rfl, ?_⟩
  match rs, rv with
  | none, rv =>
    cases rv
    refine ite2 (fun z => nomatch z) fun _ => kk _ _ (Ex.refl H) rfl
  | some L, ⟨q, ys, e, hq, hS⟩ =>
    subst e
    refine ite2 (fun _ => ?_) fun z => absurd rfl z
    have hyl : L.length = ys.length := Paired.length hS
    have hL := (ok L rfl).1
    refine one_cb ⟨.ref q, v6, q, ys, rfl, .inl (SqT.of hq), fun J Gd wk hG D' hD => ?_⟩
    refine lc_gen wk (fun m H' acc => acc = intsOf pr (L.take m)) (by omega) hD (fun m H xs ys acc h r => r) rfl hG ?_ ?_
    · intro m y Ha Hb acc hi ex yy hR Qy Qn hy hn
      obtain ⟨rfl, hx⟩ := yy
      obtain ⟨s, hsL, b, rfl, hb⟩ := Paired.at hS hx
      have tk : L.take (m + 1) = L.take m ++ [s] := by rw [List.take_add_one, hsL]; rfl
      have ix : atI [V.int s.1, V.int s.2] (k : Int) = some (V.int (pr s)) := by
        rcases hk with ⟨rfl, rfl⟩ | ⟨rfl, rfl⟩
        · exact atI_nat rfl
        · exact atI_nat rfl
      refine ⟨wipe1, yes_then ⟨_, wipe_at (by rw [len]; decide), b, _, (k : Int), V.int (pr s), rfl, rfl, SqT.of (ex _ _ hb), ix, hy _ _ (Ex.refl _) ?_⟩⟩
      rw [tk, hR]
      unfold intsOf
      rw [List.map_append]
      rfl
    · intro H4 acc e4 hD4 hR
      rw [← hyl, List.take_length] at hR
      refine ⟨D', acc, rfl, .inl ⟨SqL.of hD4, fun q hq => kk _ _ (e4.trans (Ex.new hq)) ⟨q, rfl, ?_⟩⟩⟩
      rw [upd_same, hR]
theorem ti_least (G : Mg mg) : Ti (LX P w K mg base fa cdv s0 H0) (forS 8) (D1 K T a ns) (D2 K T a ns) := by
  refine ⟨_, ps_set (i := 7) scLaw.nd rfl (.inl rfl) (pe_ifExp (pt_cmp (pc_notN (pv 6))) (pe_callTy call_tuple_of (by rfl) G.tuple (by decide +kernel) (pa_cons
    (pe_lc (own := [("_law_one", 17)]) (te := tOp (rIxT K) (tVar 17) (tC (.int ((0 : Nat) : Int)))) (by rfl) scLaw.nd (pi_seq (pv 6)) (blkOk_by (own := [("_law_one", 17)]) (N := lawN) (sc := defScope sLaw) (by decide +kernel))
      (fun _ _ _ _ _ => pg_name (i := 17) scLaw.nd rfl (.inl rfl)) (fun _ _ _ _ _ => pts_nil) (fun _ _ _ _ _ => pe_ix ix_tup (pv 17) pe_int (fun _ _ => rfl))) pa_nil)) pe_non), fun i D σ H hA kk => ?_⟩
  obtain ⟨c, p, e, cv, ys, r, z, rs, v, du⟩ := hA
  have du0 := du
  obtain ⟨x, v4, hd, v5, co, rf, v6, rv⟩ := du0
  exact q_part (k := 0) (pr := (·.1)) (.inl ⟨rfl, rfl⟩) x.len v6 rv (rf.ok x.sm) fun u H3 e3 hu => kk _ _ ⟨c, p, e, cv, ys, r, z, rs, v, u, (du.ex e3).set (by decide), sl_eq (by rw [x.len]; decide), hu⟩
theorem ti_latest (G : Mg mg) : Ti (LX P w K mg base fa cdv s0 H0) (forS 9) (D2 K T a ns) (D3 K T a ns) := by
  refine ⟨_, ps_set (i := 8) scLaw.nd rfl (.inl rfl) (pe_ifExp (pt_cmp (pc_notN (pv 6))) (pe_callTy call_tuple_of (by rfl) G.tuple (by decide +kernel) (pa_cons
    (pe_lc (own := [("_law_one", 17)]) (te := tOp (rIxT K) (tVar 17) (tC (.int ((1 : Nat) : Int)))) (by rfl) scLaw.nd (pi_seq (pv 6)) (blkOk_by (own := [("_law_one", 17)]) (N := lawN) (sc := defScope sLaw) (by decide +kernel))
      (fun _ _ _ _ _ => pg_name (i := 17) scLaw.nd rfl (.inl rfl)) (fun _ _ _ _ _ => pts_nil) (fun _ _ _ _ _ => pe_ix ix_tup (pv 17) pe_int (fun _ _ => rfl))) pa_nil)) pe_non), fun i D σ H hA kk => ?_⟩
  obtain ⟨c, p, e, cv, ys, r, z, rs, v, u, du, v7, ru⟩ := hA
  have du0 := du
  obtain ⟨x, v4, hd, v5, co, rf, v6, rv⟩ := du0
  exact q_part (k := 1) (pr := (·.2)) (.inr ⟨rfl, rfl⟩) x.len v6 rv (rf.ok x.sm) fun w H3 e3 hw => kk _ _ ⟨c, p, e, cv, ys, r, z, rs, v, u, w, (du.ex e3).set (by decide), sl_ne v7 (by decide), ru.ex e3, sl_eq (by rw [x.len]; decide), hw⟩
theorem ti_ends (hr : Room 9 (LX P w K mg base fa cdv s0 H0).A) (G : Mg mg) (C : Cal P w K mg base "least_chain" ["chain"] sLeastChain 9 (spInts2 K T (·.1)) fLe dLe) (C' : Cal P w K mg base "latest_chain" ["chain"] sLatestChain 9 (spInts2 K T (·.2)) fLa dLa) : Ti (LX P w K mg base fa cdv s0 H0) (forS 10) (D3 K T a ns) (D3 K T a ns) := by
  have hu : (LX P w K mg base fa cdv s0 H0).A.units + 64 < cLine := hr.units
  have hg : (LX P w K mg base fa cdv s0 H0).A.guards = some [] := rfl
  refine ⟨_, ps_if (pt_cmpR op_ne (pe_callB (cr_repr hu hg) (by rfl) G.repr boot_repr (pa_cons (pe_lst (pa_cons (pe_call C.ok hr (by rfl) C.ns.mg C.ns.fn.kp C.ns.bd .nil pass0 (pa_cons (pv 2) pa_nil))
    (pa_cons (pe_call C'.ok hr (by rfl) C'.ns.mg C'.ns.fn.kp C'.ns.bd .nil pass0 (pa_cons (pv 4) pa_nil)) pa_nil))) pa_nil))
    (pe_callB (cr_repr hu hg) (by rfl) G.repr boot_repr (pa_cons (pe_lst (pa_cons (pv 7) (pa_cons (pv 8) pa_nil))) pa_nil)) (nomark _)) (pss_one (ps_ret pe_bl)) pss_nil, fun i D σ H hA kk => ?_⟩
  obtain ⟨c, p, e, cv, ys, r, z, rs, v, u, w, du, v7, ru, v8, rw8⟩ := hA
  have du0 := du
  obtain ⟨x, v4, hd, v5, co, rf, v6, rv⟩ := du0
  have okr : OkL rs := rf.ok x.sm
  refine ⟨_, x.v2, c, cv, rs, rfl, x.sm.ok, x.hc.e, x.hs.tab, rf, fun v1 H1 e1 a1 => ?_⟩
  have s1 := x.hs.exT e1
  have x1 := x.step s1
  refine ⟨_, v4, c, .ref r, rs, rfl, x.sm.ok, (hd.stp x.hs s1).che, s1.tab, rf, fun v2 H2 e2 a2 => ?_⟩
  have s2 := x1.hs.exT e2
  have x2 := x1.step s2
  have b1 := a1.stp x1.hs s2
  have b7 := (ru.stp x.hs s1).stp x1.hs s2
  have b8 := (rw8.stp x.hs s1).stp x1.hs s2
  have sm := Sm.two (smIn (pr := (·.1)) (.inl rfl) okr) (smIn (pr := (·.2)) (.inr rfl) okr)
  refine ⟨by show 2 ≤ sizeLine; decide, fun r1 hr1 => ?_⟩
  have e3 := Ex.new hr1 (o := .lst [v1, v2])
  refine ⟨_, .list [dIn (·.1) rs, dIn (·.2) rs], rfl, .lst (SqL.of upd_same) (.cons (dpIn (b1.ex e3)) (.cons (dpIn (a2.ex e3)) .nil)), rfl, sm.sh, sm.nd, sm.d60 (by decide), sm.len (by decide), ?_⟩
  refine ⟨_, v7, _, v8, by show 2 ≤ sizeLine; decide, fun r2 hr2 => ?_⟩
  have e4 := Ex.new hr2 (o := .lst [u, w])
  refine ⟨_, .list [dIn (·.1) rs, dIn (·.2) rs], rfl, .lst (SqL.of upd_same) (.cons (dpIn (b7.ex (e3.trans e4))) (.cons (dpIn (b8.ex (e3.trans e4))) .nil)), rfl, sm.sh, sm.nd, sm.d60 (by decide), sm.len (by decide), ?_⟩
  refine ⟨rfl, _, rfl, ite2 (fun z => absurd z (by simp)) fun _ => ?_⟩
  have s4 := (s1.trans s2).trans (x2.hs.ex (e3.trans e4))
  exact kk _ _ ⟨c, p, e, cv, ys, r, z, rs, v, u, w, du.stp s4, v7, ru.stp x.hs s4, v8, rw8.stp x.hs s4⟩
end
end K04
set_option Elab.async false
set_option linter.all false
set_option maxRecDepth 100000
set_option maxHeartbeats 4000000
namespace K04
open PySem PySem.Spec PyProof.Rows L2 GxR Pu Evl
def dL (l : List Int) : PyData := .list (l.map PyData.int)
theorem dpL {K : PySem.W.Frag} {H : Hp} {q : Addr} {l : List Int} (h : H q = some (.lst (l.map V.int))) : Dp K H (.ref q) (dL l) := by
  refine .lst (SqL.of h) ?_
  clear h
  induction l with
  | nil => exact .nil
  | cons x l ih => exact .cons (.int _) ih
theorem dL_shaped (l : List Int) : SeqAt.shaped (dL l) = true := ints_shaped l
theorem dL_nil (l : List Int) : PyData.eqv (dL l) (.list []) = l.isEmpty := by cases l <;> rfl
theorem lst_nil (o : Option (Int × Int)) (h : OkO o) : (lst o).isEmpty = o.isNone := by
  cases o with
  | none => rfl
  | some q =>
    obtain ⟨x, y⟩ := q
    have hh := h x y rfl
    have l := ir_len hh.2.1
    show (Chn.ir x y).isEmpty = false
    cases z : Chn.ir x y with
    | nil => rw [z] at l; simp at l
    | cons _ _ => rfl
section
variable {P : Program} {w : World} {K : PySem.W.Frag} {mg : Str → Option Value} {base : Heap} {T a fa : Addr} {ns : List Int} {cdv : Value} {s0 : Shared} {H0 : Hp} {c : Ch} {p e : Addr} {cv : V} {ys : List V} {σ : L2.St} {H H' : Hp}
/-- x != [] and x != list(range(x[0], x[len(x) - 1] + 1)) is false -/
theorem q_range {j : Nat} {z : Addr} {o : Option (Int × Int)} (hv : σ[j]? = some (some (.ref z))) (hz : H z = some (.lst ((lst o).map V.int))) (ok : OkO o) {Q : Bool → Hp → Prop} (k : ∀ H3, Ex H H3 → Q false H3) :
    tAnd (tTest (tOp (rNeD K) (tVar j) (tLst tNil))) (tTest (tOp (rNeD K) (tVar j) (tLstRg (tRg2 (tOp (rIxL K) (tVar j) (tC (.int 0))) (tOp (rI0 fun i j => .int (i + j)) (tOp (rIxL K) (tVar j) (tOp (rI0 fun i j => .int (i - j)) (tCB (rLen K) (tCons (tVar j) tNil)) (tC (.int 1)))) (tC (.int 1))))))) σ H Q := by
  refine ⟨.ref z, hv, by show 0 ≤ sizeLine; decide, fun r hr => ?_⟩
  have e1 := Ex.new (H := H) (o := .lst []) hr
  have hz1 := e1 _ _ hz
  refine ⟨dL (lst o), .list [], dpL hz1, .lst (SqL.of upd_same) .nil, dL_shaped _, rfl, _, rfl, ?_⟩
  rw [dL_nil, lst_nil o ok]
  cases o with
  | none => exact ite2 (fun z => nomatch z) fun _ => k _ e1
  | some q =>
    obtain ⟨x, y⟩ := q
    have hh := ok x y rfl
    refine ite2 (fun _ => ?_) fun z => absurd rfl z
    obtain ⟨i0, i1⟩ := ir_ends hh.2.1
    refine ⟨.ref z, hv, .ref z, hv, z, _, 0, _, rfl, rfl, SqL.of hz1, i0, .ref z, hv, .ref z, hv, .ref z, _, rfl, .inl ⟨_, SqL.of hz1, rfl⟩, _, 1, rfl, rfl, z, _, _, _, rfl, rfl, SqL.of hz1, i1, y, 1, rfl, rfl, x, y + 1, rfl, rfl, RgOk.of_le (by omega) (by omega) (by omega) (by omega), fun q hq => ?_⟩
    have e2 := Ex.new hq (o := .lst (rgV x (y + 1)))
    have hq2 : (upd (upd H r (.lst [])) q (.lst (rgV x (y + 1)))) q = some (.lst ((Chn.ir x y).map V.int)) := by rw [upd_same, rgV_ir]
    refine ⟨dL (Chn.ir x y), dL (Chn.ir x y), dpL (e2 _ _ hz1), dpL hq2, dL_shaped _, dL_shaped _, _, rfl, ?_⟩
    have eq : PyData.eqv (dL (Chn.ir x y)) (dL (Chn.ir x y)) = true := by
      show PyData.eqv (.list _) (.list _) = true
      rw [PyData.eqv]
      generalize Chn.ir x y = l
      induction l with
      | nil => rfl
      | cons b l ih =>
        show (PyData.eqv (.int b) (.int b) && _) = true
        rw [ih]
        simp [PyData.eqv]
    rw [eq]
    exact k _ (e1.trans e2)
theorem ti_in (hr : Room 9 (LX P w K mg base fa cdv s0 H0).A) : Ti (LX P w K mg base fa cdv s0 H0) (forS 11) (D3 K T a ns) (D1 K T a ns) := by
  have hu : (LX P w K mg base fa cdv s0 H0).A.units + 65 < cLine := by have := hr.un; omega
  refine ⟨_, ps_if (PW.pt (pw_and (pt_cmp (pc_notN (pv 6))) (pw_and1 (PW.pt (pw_or (pt_cmpR (op_notInD hu) (pv 7) (pv 3) (by rfl)) (pw_or1 (pt_cmpR (op_notInD hu) (pv 8) (pv 3) (by rfl)))))))) (pss_one (ps_ret pe_bl)) pss_nil, fun i D σ H hA kk => ?_⟩
  obtain ⟨c, p, e, cv, ys, r, z, rs, v, u, w, du, v7, ru, v8, rw8⟩ := hA
  have du0 := du
  obtain ⟨x, v4, hd, v5, co, rf, v6, rv⟩ := du0
  have fin : D.nx σ H := kk _ _ ⟨c, p, e, cv, ys, r, z, rs, v, du⟩
  refine ⟨v, v6, _, rfl, ?_⟩
  have hL : Dp K H (.ref e) (dLines c.lines) := dpLines x.he x.hl
  by_cases f : Chn.Full c.bck
  · have er := rf.1 f
    rw [er] at rv ru rw8
    obtain ⟨q, ys2, rfl, _, _⟩ := rv
    obtain ⟨m1, m2⟩ := ends_in x.sm f
    refine ite2 (fun _ => ?_) fun z => absurd rfl z
    refine ⟨_, v7, _, x.v3, dIn (·.1) (some c.bck), c.lines.map dInts, dpIn ru, hL, ?_, lines_shaped _, _, rfl, ?_⟩
    · have e' : dIn (·.1) (some c.bck) = dInts (c.bck.map (·.1)) := by
        show PyData.tuple (c.bck.map fun s => .int s.1) = PyData.tuple ((c.bck.map (·.1)).map PyData.int)
        rw [List.map_map]
        rfl
      rw [e']
      exact ints_shaped _
    rw [dIn_mem m1]
    refine ite2 (fun z => nomatch z) fun _ => ?_
    refine ⟨_, v8, _, x.v3, dIn (·.2) (some c.bck), c.lines.map dInts, dpIn rw8, hL, ?_, lines_shaped _, _, rfl, ?_⟩
    · have e' : dIn (·.2) (some c.bck) = dInts (c.bck.map (·.2)) := by
        show PyData.tuple (c.bck.map fun s => .int s.2) = PyData.tuple ((c.bck.map (·.2)).map PyData.int)
        rw [List.map_map]
        rfl
      rw [e']
      exact ints_shaped _
    rw [dIn_mem m2]
    exact ite2 (fun z => nomatch z) fun _ => fin
  · have er := rf.2 f
    rw [er] at rv
    cases rv
    refine ite2 (fun z => nomatch z) fun _ => ?_
    exact ite2 (fun z => nomatch z) fun _ => fin
theorem ti_stretch (hr : Room 9 (LX P w K mg base fa cdv s0 H0).A) (G : Mg mg) : Ti (LX P w K mg base fa cdv s0 H0) (forS 12) (D1 K T a ns) (B3 K T a ns) := by
  have hu : (LX P w K mg base fa cdv s0 H0).A.units + 64 < cLine := hr.units
  refine ⟨_, ps_if (pt_cmpR (op_neD hu) (pe_lc (own := [("_law_some", 11)]) (te := tVar 11) (tt := tAnd (tTest (tOp (rNeD K) (tVar 11) (tLst tNil))) (tTest (tOp (rNeD K) (tVar 11) (tLstRg (tRg2 (tOp (rIxL K) (tVar 11) (tC (.int 0))) (tOp (rI0 fun i j => .int (i + j)) (tOp (rIxL K) (tVar 11) (tOp (rI0 fun i j => .int (i - j)) (tCB (rLen K) (tCons (tVar 11) tNil)) (tC (.int 1)))) (tC (.int 1))))))))
      (by rfl) scLaw.nd (pi_seq (pv 5)) (blkOk_by (own := [("_law_some", 11)]) (N := lawN) (sc := defScope sLaw) (by decide +kernel)) (fun _ _ _ _ _ => pg_name (i := 11) scLaw.nd rfl (.inl rfl))
      (fun _ _ _ _ _ => pts_one (PW.pt (pw_and (pt_cmpR (op_neD hu) (pv 11) (pe_lst pa_nil) (nomark _)) (pw_and1 (pt_cmpR (op_neD hu) (pv 11) (pe_listRg rfl (by rfl) G.list (prg_2 (by rfl) G.range (pe_ix ix_list (pv 11) pe_int (fun _ _ => rfl))
    (pe_op op_add (pe_ix ix_list (pv 11) (pe_op op_sub (pe_callB call_len (by rfl) G.len boot_len (pa_cons (pv 11) pa_nil)) pe_int) (fun _ _ => rfl)) pe_int))) (nomark _))))))
      (fun _ _ _ _ _ => pv 11)) (pe_lst pa_nil) (nomark _)) (pss_one (ps_ret pe_bl)) pss_nil, fun i D σ H hA kk => ?_⟩
  obtain ⟨c, p, e, cv, ys, r, z, rs, v, x, v4, hd, v5, co, rf, v6, rv⟩ := hA
  obtain ⟨zp, cs, hz, hcs⟩ := co
  have hcl : c.cols.length = cs.length := Paired.length hcs
  have hcw := cols_len c
  have wl := x.sm.wl
  refine ⟨.ref z, v5, z, cs, rfl, .inr (SqL.of hz), fun J Gd wk hG D' hD => ?_⟩
  refine lc_gen wk (fun m H' acc => acc = []) (by omega) hD (fun m H xs ys acc h r => r) rfl hG ?_ ?_
  · intro m y Ha Hb acc hi ex yy hR Qy Qn hy hn
    obtain ⟨rfl, hx⟩ := yy
    obtain ⟨o, hoL, q1, rfl, q2, hq1, ok⟩ := Paired.at hcs hx
    refine ⟨wipe1, ?_⟩
    refine q_range (K := K) (wipe_at (by rw [x.len]; decide)) (ex _ _ hq1) ok fun H3 e3 => ?_
    rw [if_neg (by decide)]
    exact hn H3 e3 hR
  · intro H4 acc e4 hD4 hR
    subst hR
    refine ⟨by show 0 ≤ sizeLine; decide, fun q hq => ?_⟩
    have e5 := Ex.new hq (o := .lst [])
    refine ⟨.list [], .list [], .lst (SqL.of (e5 _ _ hD4)) .nil, .lst (SqL.of upd_same) .nil, rfl, rfl, _, rfl, ?_⟩
    exact ite2 (fun z => nomatch z) fun _ => kk _ _ ⟨c, p, e, cv, ys, x.ex (e4.trans e5)⟩
end
end K04
set_option Elab.async false
set_option linter.all false
set_option maxRecDepth 100000
set_option maxHeartbeats 4000000
namespace Pu
open PySem PySem.Spec PyProof.Rows L2 GxR Evl
/-- repr of a list, a tuple, or None -/
def rRepr2 (K : PySem.W.Frag) : List V → Hp → VK → Prop := fun vs H Q => (vs = [.non] ∧ Q (.str "None") H) ∨ rRepr K vs H Q
theorem cr_repr2 {X : Cx} (hu : X.A.units + 64 < cLine) (hg : X.A.guards = some []) : CallR X (.builtin "repr") (rRepr2 X.K) := by
  intro pins s σ H vs us Q I r h
  rcases h with ⟨rfl, q⟩ | h
  · obtain ⟨u, rfl, rv⟩ := vals1 r
    cases (show u = Value.none from rv)
    exact call_repr_gives (T := "NoneType") rfl F.slot_NoneType_repr F.entry_NoneType_repr (F.args_NoneType_repr_1 _) gives_none_repr ⟨.str "None", H, I.tok _, ⟨_, rfl⟩, q⟩
  · exact cr_repr hu hg pins s σ H vs us Q I r h
end Pu
set_option Elab.async false
set_option linter.all false
set_option maxRecDepth 100000
set_option maxHeartbeats 4000000
namespace K04
open PySem PySem.Spec PyProof.Rows L2 GxR Pu Evl
/-- the lines through a row and stamp -/
def Ch.thr (c : Ch) (r st : Nat) : List (List Int) := c.lines.filter fun l => decide (l.getD r 0 = (st : Int))
theorem pin_win (st : Nat) (w : Nat × Option Nat) : winI (pinW st w) = Chn.pinI st (winI w) := by
  obtain ⟨lo, o⟩ := w
  unfold winI pinW Chn.pinI
  cases o with
  | none => exact Prod.ext (by show ((max st lo : Nat) : Int) = max (st : Int) (lo : Int); omega) rfl
  | some h => exact Prod.ext (by show ((max st lo : Nat) : Int) = max (st : Int) (lo : Int); omega) (by show some ((min st h : Nat) : Int) = some (min (st : Int) (h : Int)); congr 1; omega)
theorem pin_ws {c : Ch} {r : Nat} (hr : r < c.ws.length) (st : Nat) : (c.pin r st).ws.map winI = (c.ws.map winI).set r (Chn.pinI st ((c.ws.map winI)[r]'(by rw [List.length_map]; exact hr))) := by
  show (c.ws.set r (pinW st (c.ws.getD r (0, none)))).map winI = _
  rw [List.map_set, pin_win, List.getElem_map]
  have : c.ws.getD r (0, none) = c.ws[r] := by rw [List.getD_eq_getElem?_getD, List.getElem?_eq_getElem hr]; rfl
  rw [this]
theorem thr_mem {c : Ch} (sm : c.Small) {r st : Nat} (hr : r < c.ws.length) {xs : List Int} : xs ∈ c.thr r st ↔ Chn.Sol c.g c.p (Chn.first c.g c.p (c.b.map fun n => (n : Int))) ((c.pin r st).ws.map winI) xs := by
  have hr2 : r < (c.ws.map winI).length := by rw [List.length_map]; exact hr
  rw [pin_ws hr, Chn.sol_pin (List.getElem?_eq_getElem hr2)]
  unfold Ch.thr
  rw [List.mem_filter, mem_ln, decide_eq_true_eq]
  constructor
  · rintro ⟨a, b⟩
    have hl := (line_small sm (mem_ln.mpr a)).1
    refine ⟨a, ?_⟩
    rw [← b, List.getD_eq_getElem?_getD, List.getElem?_eq_getElem (by omega)]
    rfl
  · rintro ⟨a, b⟩
    refine ⟨a, ?_⟩
    rw [List.getD_eq_getElem?_getD, b]
    rfl
theorem thr_full {c : Ch} (sm : c.Small) {r st : Nat} (hr : r < c.ws.length) : Chn.Full (c.pin r st).bck ↔ c.thr r st ≠ [] := by
  have h := Chn.sol_iff (g := c.g) (p := c.p) sm.gpI.2 (ws := (c.pin r st).ws.map winI) (s := Chn.first c.g c.p (c.b.map fun n => (n : Int)))
  refine h.symm.trans ⟨fun ⟨xs, hx⟩ z => ?_, fun z => ?_⟩
  · have := (thr_mem sm hr).mpr hx
    rw [z] at this
    cases this
  · obtain ⟨xs, hx⟩ := List.exists_mem_of_ne_nil _ z
    exact ⟨xs, (thr_mem sm hr).mp hx⟩
theorem thr_least {c : Ch} (sm : c.Small) {r st : Nat} (hr : r < c.ws.length) (f : Chn.Full (c.pin r st).bck) : (c.pin r st).bck.map (·.1) ∈ c.thr r st := (thr_mem sm hr).mpr (Chn.sol_ends (g := c.g) (p := c.p) sm.gpI.2 f).1
theorem thr_in {c : Ch} {r st : Nat} {l : List Int} (h : l ∈ c.thr r st) : l ∈ c.lines := (List.mem_filter.mp h).1
theorem thr_min {c : Ch} (sm : c.Small) {r st : Nat} (hr : r < c.ws.length) {j : Nat} (hj : j < c.ws.length) {m : Int} (h1 : m ∈ (c.thr r st).map fun l => l.getD j 0) (h2 : ∀ y, y ∈ ((c.thr r st).map fun l => l.getD j 0) → m ≤ y) : m = ((c.pin r st).bck.getD j (0, 0)).1 := by
  have pl : (c.pin r st).bck.length = c.ws.length := by rw [bck_len']; show (c.ws.set r _).length = _; rw [List.length_set]
  obtain ⟨l, hl, rfl⟩ := List.mem_map.mp h1
  have f : Chn.Full (c.pin r st).bck := (thr_full sm hr).mpr (List.ne_nil_of_mem hl)
  have hs := (thr_mem sm hr).mp hl
  have ll := (line_small sm (thr_in hl)).1
  have a := (Chn.in_at (i := j) (x := l.getD j 0) (Chn.sol_in hs) (by rw [List.getD_eq_getElem?_getD, List.getElem?_eq_getElem (by omega)]; rfl)).1
  have b := h2 _ (List.mem_map.mpr ⟨_, thr_least sm hr f, rfl⟩)
  have e : ((c.pin r st).bck.map (·.1)).getD j 0 = ((c.pin r st).bck.getD j (0, 0)).1 := by
    rw [List.getD_eq_getElem?_getD, List.getD_eq_getElem?_getD, List.getElem?_map, List.getElem?_eq_getElem (by omega)]
    rfl
  rw [e] at b
  have a' : ((c.pin r st).bck.getD j (0, 0)).1 ≤ l.getD j 0 := a
  omega
def OkP (r : Rs) : Prop := ∀ L, r = some L → L.length ≤ 4 ∧ ∀ s ∈ L, 0 ≤ s.1 ∧ s.1 ≤ 25
theorem smP {r : Rs} (h : OkP r) : Sm 1 4 (dIn (·.1) r) := by
  cases r with
  | none => exact Sm.none.mono (by decide) (by decide)
  | some L =>
    have hh := h L rfl
    refine Sm.tup (c := 4) (m := 0) (fun d hd => ?_) (by rw [List.length_map]; exact hh.1)
    obtain ⟨s, hs, rfl⟩ := List.mem_map.mp hd
    have b := hh.2 s hs
    exact Sm.intI (a := s.1) b.1 (by have := b.2; omega)
theorem pin_ok {c : Ch} (sm : c.Small) {r st : Nat} (hr : r < c.ws.length) {rs : Rs} (rf : RF (c.pin r st) rs) : OkP rs := by
  intro L e
  by_cases f : Chn.Full (c.pin r st).bck
  · rw [rf.1 f] at e
    cases e
    have pl : (c.pin r st).bck.length = c.ws.length := by rw [bck_len']; show (c.ws.set r _).length = _; rw [List.length_set]
    refine ⟨by rw [pl]; exact sm.wl, fun s hs => (line_small sm (thr_in (thr_least sm hr f))).2 _ (List.mem_map.mpr ⟨s, hs, rfl⟩)⟩
  · rw [rf.2 f] at e
    cases e
def spThrough2 (K : PySem.W.Frag) (T : Addr) : Sp := fun vs H Q _ => ∃ (c : Ch) (v : V) (row st : Nat) (r : Rs), vs = [v, .int row, .int st] ∧ c.Ok ∧ ChE K H c v ∧ TabG H T ∧ row < c.ws.length ∧ RF (c.pin row st) r ∧ ∀ u H', ExT T H H' → ResI (·.1) H' r u → Q u H'
theorem through2 {K : PySem.W.Frag} {T : Addr} {vs : List V} {H : Hp} {Q : VK} {E : XK} (h : spThrough2 K T vs H Q E) : spThrough K T vs H Q E := by
  obtain ⟨c, v, row, st, r, e, ok, hc, ht, hr, rf, k⟩ := h
  refine ⟨c, v, row, st, e, ok, hc, ht, hr, fun nf H' e1 => k _ _ e1 ?_, fun fu q H' _ e1 h1 => k _ _ e1 ?_⟩
  · rw [rf.2 nf]; rfl
  · rw [rf.1 fu]; exact ⟨q, rfl, h1⟩
def J0 (K : PySem.W.Frag) (T a : Addr) (ns : List Int) (_ : Nat) (σ : L2.St) (H : Hp) : Prop := ∃ c p e cv ys, Ctx K T a ns c p e cv ys σ H ∧ 0 < c.ws.length
def J1 (K : PySem.W.Frag) (T a : Addr) (ns : List Int) (_ : Nat) (σ : L2.St) (H : Hp) : Prop := ∃ c p e cv ys, ∃ r st : Nat, Ctx K T a ns c p e cv ys σ H ∧ r < c.ws.length ∧ st < 20 ∧ σ[9]? = some (some (.int r)) ∧ σ[10]? = some (some (.int st))
def J2 (K : PySem.W.Frag) (T a : Addr) (ns : List Int) (_ : Nat) (σ : L2.St) (H : Hp) : Prop := ∃ c p e cv ys, ∃ (r st : Nat) (z : Addr) (zs : List V), Ctx K T a ns c p e cv ys σ H ∧ r < c.ws.length ∧ st < 20 ∧ σ[9]? = some (some (.int r)) ∧ σ[10]? = some (some (.int st)) ∧ σ[11]? = some (some (.ref z)) ∧ H z = some (.lst zs) ∧ LnT H (c.thr r st) zs
def J3 (K : PySem.W.Frag) (T a : Addr) (ns : List Int) (_ : Nat) (σ : L2.St) (H : Hp) : Prop := ∃ c p e cv ys, ∃ (r st : Nat) (rs : Rs) (v : V), Ctx K T a ns c p e cv ys σ H ∧ r < c.ws.length ∧ st < 20 ∧ σ[9]? = some (some (.int r)) ∧ σ[10]? = some (some (.int st)) ∧ RF (c.pin r st) rs ∧ σ[6]? = some (some v) ∧ ResI (·.1) H rs v
section
variable {P : Program} {w : World} {K : PySem.W.Frag} {mg : Str → Option Value} {base : Heap} {T a fa : Addr} {ns : List Int} {cdv : Value} {s0 : Shared} {H0 : Hp} {c : Ch} {p e : Addr} {cv : V} {ys : List V} {σ : L2.St} {H H' : Hp}
variable {fTake fTh : Addr} {dTake dTh : FuncData}
theorem tj_draw (hr : Room 9 (LX P w K mg base fa cdv s0 H0).A) (G : Mg mg) (C : Cal P w K mg base "_law_take" ["_law_box_here", "_law_many"] sTake 1 spTake fTake dTake) : Ti (LX P w K mg base fa cdv s0 H0) (turS 0) (J0 K T a ns) (J1 K T a ns) := by
  refine ⟨_, ps_asg (pe_tup (pa_cons (pe_call C.ok (hr.mono (by decide)) (by rfl) C.ns.mg C.ns.fn.kp C.ns.bd .nil pass0 (pa_cons (pv 1) (pa_cons (pe_callB call_len (by rfl) G.len boot_len (pa_cons (pe_ix ix_tup (pv 2) pe_int (fun _ _ => rfl)) pa_nil)) pa_nil)))
      (pa_cons (pe_call C.ok (hr.mono (by decide)) (by rfl) C.ns.mg C.ns.fn.kp C.ns.bd .nil pass0 (pa_cons (pv 1) (pa_cons pe_int pa_nil))) pa_nil)))
    (pg_tup rfl (pgs_cons (pg_name (i := 9) scLaw.nd rfl (.inr rfl)) (pgs_cons (pg_name (i := 10) scLaw.nd rfl (.inr rfl)) pgs_nil))), fun i D σ H hA kk => ?_⟩
  obtain ⟨c, p, e, cv, ys, x, hw⟩ := hA
  have hc := x.hc
  obtain ⟨ca, cb, xs, rfl, h2, h3, h4⟩ := hc
  have hxl : c.ws.length = xs.length := Paired.length h4
  have wl := x.sm.wl
  have i3 : atI [V.int c.g, V.int c.p, nonV c.b, .ref cb] ((3 : Nat) : Int) = some (.ref cb) := atI_nat rfl
  refine ⟨_, x.v1, _, x.v2, ca, _, 3, _, rfl, rfl, SqT.of h2, i3, .ref cb, xs.length, rfl, .inr ⟨xs, SqT.of h3, rfl⟩, p, xs.length, rfl, by omega, by omega, x.hs.box, fun d1 H1 hd1 e1 => ?_⟩
  have x1 := x.step (x.hs.exB e1)
  refine ⟨_, x.v1, p, 20, rfl, by decide, by decide, x1.hs.box, fun d2 H2 hd2 e2 => ?_⟩
  have x2 := x1.step (x1.hs.exB e2)
  refine ⟨by show 2 ≤ sizeLine; decide, fun r hr => ?_⟩
  have e3 := Ex.new hr (o := .tup [V.int d1, .int d2])
  have l := x.len
  exact ⟨r, _, rfl, SqT.of upd_same, rfl, _, _, rfl, _, _, rfl, rfl, kk _ _ ⟨c, p, e, .ref ca, ys, d1, d2, ((x2.ex e3).set (by decide)).set (by decide), by omega, hd2, sl_ne (sl_eq (by rw [l]; decide)) (by decide), sl_eq (by rw [List.length_set, l]; decide)⟩⟩
theorem tj_some : Ti (LX P w K mg base fa cdv s0 H0) (turS 1) (J1 K T a ns) (J2 K T a ns) := by
  refine ⟨_, ps_set (i := 11) scLaw.nd rfl (.inr rfl) (pe_lc (own := [("_law_line", 12)]) (te := tVar 12) (tt := tTest (tOp rEq (tOp (rIxT K) (tVar 12) (tVar 9)) (tVar 10))) (by rfl) scLaw.nd (pi_seq (pv 3)) (blkOk_by (own := [("_law_line", 12)]) (N := lawN) (sc := defScope sLaw) (by decide +kernel))
      (fun _ _ _ _ _ => pg_name (i := 12) scLaw.nd rfl (.inl rfl)) (fun _ _ _ _ _ => pts_one (pt_cmpR op_eq (pe_ix ix_tup (pv 12) (pv 9) (fun _ _ => rfl)) (pv 10) (nomark _))) (fun _ _ _ _ _ => pv 12)), fun i D σ H hA kk => ?_⟩
  obtain ⟨c, p, e, cv, ys, r, st, x, hr, hst, v9, v10⟩ := hA
  have hyl : c.lines.length = ys.length := Paired.length x.hl
  have hln := x.hn
  refine ⟨.ref e, x.v3, e, ys, rfl, .inr (SqL.of x.he), fun J Gd wk hG D' hD => ?_⟩
  refine lc_gen wk (fun m H' acc => LnT H' ((c.lines.take m).filter fun l => decide (l.getD r 0 = (st : Int))) acc) (by omega) hD (fun m H xs ys acc h r => r.upd h) .nil hG ?_ ?_
  · intro m y Ha Hb acc hi ex yy hR Qy Qn hy hn
    obtain ⟨rfl, hx⟩ := yy
    obtain ⟨l, hlL, q, rfl, hq⟩ := Paired.at x.hl hx
    have hmem : l ∈ c.lines := List.mem_of_getElem? hlL
    have hll := (line_small x.sm hmem).1
    have tk : c.lines.take (m + 1) = c.lines.take m ++ [l] := by rw [List.take_add_one, hlL]; rfl
    have lj : (l.map V.int)[r]? = some (V.int (l.getD r 0)) := by rw [List.getElem?_map, List.getD_eq_getElem?_getD, List.getElem?_eq_getElem (by omega)]; rfl
    refine ⟨wipe1, test_then (b := decide (V.int (l.getD r 0) = V.int (st : Int))) (et_test (ev_op (ev_op (ev_var (wipe_at (by rw [x.len]; decide))) (ev_var (wipe_ne v9 (by decide))) (rv_ixT (SqT.of (ex _ _ hq)) (atI_nat lj))) (ev_var (wipe_ne v10 (by decide))) (rv_eq rfl))) (fun hb H3 e3 => ?_) fun hb H3 e3 => ?_⟩
    · have hc : l.getD r 0 = (st : Int) := V.int.inj (of_decide_eq_true hb)
      refine ⟨_, wipe_at (by rw [x.len]; decide), hy _ _ e3 ?_⟩
      rw [tk, List.filter_append, List.filter_cons, if_pos (decide_eq_true hc)]
      exact (hR.ex e3).snoc (e3 _ _ (ex _ _ hq))
    · have hc : ¬ l.getD r 0 = (st : Int) := fun y => of_decide_eq_false hb (by rw [y])
      refine hn H3 e3 ?_
      rw [tk, List.filter_append, List.filter_cons, if_neg (by rw [decide_eq_true_eq]; exact hc)]
      simpa using hR.ex e3
  · intro H4 acc e4 hD4 hR
    rw [← hyl, List.take_length] at hR
    exact kk _ _ ⟨c, p, e, cv, ys, r, st, D', acc, (x.ex e4).set (by decide), hr, hst, sl_ne v9 (by decide), sl_ne v10 (by decide), sl_eq (by rw [x.len]; decide), hD4, hR⟩
end
end K04
set_option Elab.async false
set_option linter.all false
set_option maxRecDepth 100000
set_option maxHeartbeats 4000000
namespace K04
open PySem PySem.Spec PyProof.Rows L2 GxR Pu Evl
section
variable {P : Program} {w : World} {K : PySem.W.Frag} {mg : Str → Option Value} {base : Heap} {T a fa : Addr} {ns : List Int} {cdv : Value} {s0 : Shared} {H0 : Hp} {c : Ch} {p e : Addr} {cv : V} {ys : List V} {σ : L2.St} {H H' : Hp}
variable {fTake fTh : Addr} {dTake dTh : FuncData}
theorem tj_min (hr : Room 9 (LX P w K mg base fa cdv s0 H0).A) (G : Mg mg) : Ti (LX P w K mg base fa cdv s0 H0) (turS 2) (J2 K T a ns) (J3 K T a ns) := by
  have hu : (LX P w K mg base fa cdv s0 H0).A.units + 64 < cLine := hr.units
  refine ⟨_, ps_set (i := 6) scLaw.nd rfl (.inl rfl) (pe_ifExp (pt_cmpR (op_neD hu) (pv 11) (pe_lst pa_nil) (nomark _)) (pe_callTy call_tuple_of (by rfl) G.tuple (by decide +kernel) (pa_cons
    (pe_lc (own := [("_law_one", 17)]) (te := tCB (rMin K) (tCons (tLc (iSeq K (tVar 11)) (gName 12) tYes (tOp (rIxT K) (tVar 12) (tVar 17)) [12]) tNil)) (by rfl) scLaw.nd
      (pi_range1 (by rfl) G.range (pa_cons (pe_callB call_len (by rfl) G.len boot_len (pa_cons (pe_ix ix_tup (pv 2) pe_int (fun _ _ => rfl)) pa_nil)) pa_nil)) (blkOk_by (own := [("_law_one", 17)]) (N := lawN) (sc := defScope sLaw) (by decide +kernel))
      (fun _ _ _ _ _ => pg_name (i := 17) scLaw.nd rfl (.inr rfl)) (fun _ _ _ _ _ => pts_nil)
      (fun _ _ _ _ _ => pe_callB (cr_min rfl) (by rfl) G.min boot_min (pa_cons (pe_lc (own := [("_law_line", 12)]) (te := tOp (rIxT K) (tVar 12) (tVar 17)) (by rfl) scLaw.nd (pi_seq (pv 11))
          (blkOk_by (own := [("_law_line", 12)]) (N := lawN) (sc := { kind := .function, names := [(".0", .local), ("_law_one", .cell), ("min", .globalImplicit), ("_law_some", .cell)], isGenerator := false, isCoroutine := false }) (by decide +kernel))
          (fun _ _ _ _ _ => pg_name (i := 12) scLaw.nd rfl (.inl rfl)) (fun _ _ _ _ _ => pts_nil) (fun _ _ _ _ _ => pe_ix ix_tup (pv 12) (pv 17) (fun _ _ => rfl))) pa_nil))) pa_nil)) pe_non), fun i D σ H hA kk => ?_⟩
  obtain ⟨c, p, e, cv, ys, r, st, z, zs, x, hr, hst, v9, v10, v11, hz, hzs⟩ := hA
  refine ⟨.ref z, v11, by show 0 ≤ sizeLine; decide, fun q hq => ?_⟩
  have e1 := Ex.new (H := H) (o := .lst []) hq
  have x1 := x.ex e1
  have hz1 := e1 _ _ hz
  have hzs1 := hzs.ex e1
  refine ⟨dLines (c.thr r st), .list [], dpLines hz1 hzs1, .lst (SqL.of upd_same) .nil, lines_shaped _, rfl, _, rfl, ?_⟩
  rw [lines_nil]
  obtain ⟨rs, rf⟩ := rf_ex (c.pin r st)
  have fin : ∀ v H3, Ex H H3 → ResI (·.1) H3 rs v → D.nx (σ.set 6 (some v)) H3 := fun v H3 e3 hv => kk _ _ ⟨c, p, e, cv, ys, r, st, rs, v, (x.ex e3).set (by decide), hr, hst, sl_ne v9 (by decide), sl_ne v10 (by decide), rf, sl_eq (by rw [x.len]; decide), hv⟩
  have zl : (c.thr r st).length ≤ 1296 := Nat.le_trans (List.length_filter_le ..) x.hn
  have hzl : (c.thr r st).length = zs.length := Paired.length hzs
  have pl : (c.pin r st).bck.length = c.ws.length := by rw [bck_len']; show (c.ws.set r _).length = _; rw [List.length_set]
  by_cases f : Chn.Full (c.pin r st).bck
  · have hne := (thr_full x.sm hr).mp f
    have hne2 : (c.thr r st).isEmpty = false := by
      cases h : c.thr r st with
      | nil => exact absurd h hne
      | cons _ _ => rfl
    rw [hne2]
    refine ite2 (fun _ => ?_) fun z => absurd rfl z
    have hc := x1.hc
    obtain ⟨ca, cb, xs, rfl, h2, h3, h4⟩ := hc
    have hxl : c.ws.length = xs.length := Paired.length h4
    have wl := x.sm.wl
    have i3 : atI [V.int c.g, V.int c.p, nonV c.b, .ref cb] ((3 : Nat) : Int) = some (.ref cb) := atI_nat rfl
    refine one_cb ⟨_, x.v2, ca, _, 3, _, rfl, rfl, SqT.of h2, i3, .ref cb, xs.length, rfl, .inr ⟨xs, SqT.of h3, rfl⟩, (xs.length : Int), rfl, by omega, by omega, fun D' hD => ?_⟩
    refine lc_gen walk_range (fun j H' acc => acc = intsOf (·.1) ((c.pin r st).bck.take j)) (by rw [Int.toNat_natCast]; omega) hD (fun m H xs ys acc h r => r) rfl (fun _ _ => True.intro) ?_ ?_
    · intro j y Ha Hb acc hj ex yy hR Qy Qn hy hn
      obtain ⟨rfl, rfl⟩ := yy
      have hj2 : j < c.ws.length := by rw [Int.toNat_natCast] at hj; omega
      refine ⟨wipe1, yes_then ?_⟩
      have len17 : ((wipe σ [17]).set 17 (some (.int (0 + (j : Int))))).length = 19 := wipe_len.trans x.len
      refine one_cb ⟨.ref z, wipe_ne v11 (by decide), z, zs, rfl, .inr (SqL.of (ex _ _ hz1)), fun J Gd wk hG D2 hD2 => ?_⟩
      refine lc_gen wk (fun m H' acc2 => acc2 = ((c.thr r st).take m).map fun l => V.int (l.getD j 0)) (by omega) hD2 (fun m H xs ys acc h r => r) rfl hG ?_ ?_
      · intro m yv Hc Hd acc2 hm ex2 yy hR2 Qy2 Qn2 hy2 hn2
        obtain ⟨rfl, hx⟩ := yy
        obtain ⟨l, hlL, q, rfl, hq⟩ := Paired.at hzs1 hx
        have hmem : l ∈ c.thr r st := List.mem_of_getElem? hlL
        have hll := (line_small x.sm (thr_in hmem)).1
        have tk : (c.thr r st).take (m + 1) = (c.thr r st).take m ++ [l] := by rw [List.take_add_one, hlL]; rfl
        have lj : (l.map V.int)[j]? = some (V.int (l.getD j 0)) := by rw [List.getElem?_map, List.getD_eq_getElem?_getD, List.getElem?_eq_getElem (by omega)]; rfl
        have ej : (0 : Int) + (j : Int) = ((j : Nat) : Int) := by omega
        refine ⟨wipe1, yes_then ⟨.ref q, wipe_at (Nat.lt_of_lt_of_eq (show 12 < 19 by decide) len17.symm), _, wipe_ne (wipe_at (by rw [x.len]; decide)) (by decide), q, l.map V.int, (0 : Int) + (j : Int), V.int (l.getD j 0), rfl, rfl, SqT.of ((ex.trans ex2) _ _ hq), by rw [ej]; exact atI_nat lj, hy2 _ _ (Ex.refl _) ?_⟩⟩
        rw [tk, hR2, List.map_append]
        rfl
      · intro H4 acc2 e4 hD4 hR2
        rw [← hzl, List.take_length] at hR2
        have em : acc2 = ((c.thr r st).map fun l => l.getD j 0).map V.int := by rw [hR2, List.map_map]; rfl
        rw [em] at hD4
        refine ⟨D2, (c.thr r st).map fun l => l.getD j 0, rfl, SqL.of hD4, by rw [List.length_map]; exact List.length_pos_iff.mpr hne, fun m hm1 hm2 => ?_⟩
        have hmin := thr_min x.sm hr hj2 hm1 hm2
        have hb : j < (c.pin r st).bck.length := by omega
        have tk : (c.pin r st).bck.take (j + 1) = (c.pin r st).bck.take j ++ [(c.pin r st).bck[j]] := by rw [List.take_add_one, List.getElem?_eq_getElem hb]; rfl
        have gd : (c.pin r st).bck.getD j (0, 0) = (c.pin r st).bck[j] := by rw [List.getD_eq_getElem?_getD, List.getElem?_eq_getElem hb]; rfl
        refine hy _ _ e4 ?_
        rw [tk, hR, hmin, gd]
        unfold intsOf
        rw [List.map_append]
        rfl
    · intro H4 acc e4 hD4 hR
      have tl : (c.pin r st).bck.take ((xs.length : Nat) : Int).toNat = (c.pin r st).bck := by rw [Int.toNat_natCast, ← hxl, ← pl, List.take_length]
      rw [tl] at hR
      refine ⟨D', acc, rfl, .inl ⟨SqL.of hD4, fun q hq => fin _ _ (e1.trans (e4.trans (Ex.new hq))) ?_⟩⟩
      rw [rf.1 f]
      exact ⟨q, rfl, by rw [upd_same, hR]⟩
  · have hne : (c.thr r st).isEmpty = true := by
      have : c.thr r st = [] := Classical.byContradiction fun z => f ((thr_full x.sm hr).mpr z)
      rw [this]
      rfl
    rw [hne]
    refine ite2 (fun z => nomatch z) fun _ => fin _ _ e1 ?_
    rw [rf.2 f]
    rfl
theorem tj_check (hr : Room 9 (LX P w K mg base fa cdv s0 H0).A) (G : Mg mg) (C : Cal P w K mg base "chain_through" ["chain", "row", "stamp"] sChainThrough 9 (spThrough2 K T) fTh dTh) (W : KwOk K dTh ["chain", "row", "stamp"] ["stamp", "row", "chain"] (perm [2, 1, 0]) (perm [2, 1, 0])) : Ti (LX P w K mg base fa cdv s0 H0) (turS 3) (J3 K T a ns) (J0 K T a ns) := by
  have hu : (LX P w K mg base fa cdv s0 H0).A.units + 64 < cLine := hr.units
  have hu5 : (LX P w K mg base fa cdv s0 H0).A.units + 65 < cLine := by have := hr.un; omega
  have hg : (LX P w K mg base fa cdv s0 H0).A.guards = some [] := rfl
  refine ⟨_, ps_if (PW.pt (pw_or (PW.pt (pw_and (pt_cmp (pc_notN (pv 6))) (pw_and1 (pt_cmpR (op_notInD hu5) (pv 6) (pv 3) (by rfl))))) (pw_or1 (pt_cmpR op_ne (pe_callB (cr_repr2 hu hg) (by rfl) G.repr boot_repr (pa_cons (pe_callW C.ok hr (by rfl) C.ns.mg C.ns.fn.kp W pass0 (pk_cons (pv 10) (pk_cons (pv 9) (pk_cons (pv 2) pk_nil)))) pa_nil))
    (pe_callB (cr_repr2 hu hg) (by rfl) G.repr boot_repr (pa_cons (pv 6) pa_nil)) (nomark _))))) (pss_one (ps_ret pe_bl)) pss_nil, fun i D σ H hA kk => ?_⟩
  obtain ⟨c, p, e, cv, ys, r, st, rs, v, x, hr, hst, v9, v10, rf, v6, rv⟩ := hA
  have okp := pin_ok x.sm hr rf
  have sm := smP okp
  have hL : Dp K H (.ref e) (dLines c.lines) := dpLines x.he x.hl
  -- the second half: what the program answers
  have half : ∀ {R : Bool → Hp → Prop}, (∀ H3, Stp T p H H3 → R false H3) → (tTest (tOp rNe (tCB (rRepr2 K) (tCons (tCallW (spThrough2 K T) (perm [2, 1, 0]) E0 (tCons (tVar 10) (tCons (tVar 9) (tCons (tVar 2) tNil)))) tNil)) (tCB (rRepr2 K) (tCons (tVar 6) tNil)))) σ H R := by
    intro R k
    refine ⟨_, v10, _, v9, _, x.v2, c, cv, r, st, rs, rfl, x.sm.ok, x.hc.e, x.hs.tab, hr, rf, fun v1 H1 e1 a1 => ?_⟩
    have s1 := x.hs.exT e1
    have b6 := rv.stp x.hs s1
    cases rs with
    | none =>
      have z1 : v1 = .non := a1
      have z6 : v = .non := rv
      refine .inl ⟨by rw [z1], _, v6, .inl ⟨by rw [z6], rfl, _, rfl, ?_⟩⟩
      exact (by simpa using k H1 s1)
    | some L =>
      refine .inr ⟨_, dIn (·.1) (some L), rfl, dpIn a1, rfl, sm.sh, sm.nd, sm.d60 (by decide), sm.len (by decide), _, v6, .inr ⟨_, dIn (·.1) (some L), rfl, dpIn b6, rfl, sm.sh, sm.nd, sm.d60 (by decide), sm.len (by decide), rfl, _, rfl, ?_⟩⟩
      exact (by simpa using k H1 s1)
  have fin : ∀ H3, Stp T p H H3 → D.nx σ H3 := fun H3 s => kk _ _ ⟨c, p, e, cv, ys, x.step s, by omega⟩
  refine ⟨v, v6, _, rfl, ?_⟩
  by_cases f : Chn.Full (c.pin r st).bck
  · have er := rf.1 f
    have rv2 := rv
    rw [er] at rv2
    obtain ⟨q, rfl, hq⟩ := rv2
    refine ite2 (fun _ => ?_) fun z => absurd rfl z
    refine ⟨_, v6, _, x.v3, dIn (·.1) (some (c.pin r st).bck), c.lines.map dInts, ?_, hL, ?_, lines_shaped _, _, rfl, ?_⟩
    · have := dpIn (K := K) (pr := (·.1)) (r := some (c.pin r st).bck) (v := .ref q) (H := H) ⟨q, rfl, hq⟩
      exact this
    · have e' : dIn (·.1) (some (c.pin r st).bck) = dInts ((c.pin r st).bck.map (·.1)) := by
        show PyData.tuple ((c.pin r st).bck.map fun s => .int s.1) = PyData.tuple (((c.pin r st).bck.map (·.1)).map PyData.int)
        rw [List.map_map]
        rfl
      rw [e']
      exact ints_shaped _
    rw [dIn_mem (thr_in (thr_least x.sm hr f))]
    refine ite2 (fun z => nomatch z) fun _ => ?_
    exact half fun H3 s => ite2 (fun z => nomatch z) fun _ => fin H3 s
  · have er := rf.2 f
    have rv2 := rv
    rw [er] at rv2
    cases rv2
    refine ite2 (fun z => nomatch z) fun _ => ?_
    exact half fun H3 s => ite2 (fun z => nomatch z) fun _ => fin H3 s
end
end K04
set_option Elab.async false
set_option linter.all false
set_option maxRecDepth 100000
set_option maxHeartbeats 4000000
namespace K04
open PySem PySem.Spec PyProof.Rows L2 GxR Pu Evl
theorem wins_nil (ws : List (Nat × Option Nat)) : PyData.eqv (.tuple (ws.map dWin)) (.tuple []) = ws.isEmpty := by cases ws <;> rfl
section
variable {P : Program} {w : World} {K : PySem.W.Frag} {mg : Str → Option Value} {base : Heap} {T a fa : Addr} {ns : List Int} {cdv : Value} {s0 : Shared} {H0 : Hp} {c : Ch} {p e : Addr} {cv : V} {ys : List V} {σ : L2.St} {H H' : Hp}
variable {fTake fTh : Addr} {dTake dTh : FuncData}
theorem ti_turns (hr : Room 9 (LX P w K mg base fa cdv s0 H0).A) (G : Mg mg) (Ct : Cal P w K mg base "_law_take" ["_law_box_here", "_law_many"] sTake 1 spTake fTake dTake) (C : Cal P w K mg base "chain_through" ["chain", "row", "stamp"] sChainThrough 9 (spThrough2 K T) fTh dTh) (W : KwOk K dTh ["chain", "row", "stamp"] ["stamp", "row", "chain"] (perm [2, 1, 0]) (perm [2, 1, 0])) : Ti (LX P w K mg base fa cdv s0 H0) (forS 13) (B3 K T a ns) (B3 K T a ns) := by
  have hu : (LX P w K mg base fa cdv s0 H0).A.units + 64 < cLine := hr.units
  have bd : Tis (LX P w K mg base fa cdv s0 H0) (bodyOf (forS 13)) (J0 K T a ns) (J0 K T a ns) := Tis.cons (tj_draw hr G Ct) (Tis.cons tj_some (Tis.cons (tj_min hr G) (Tis.one (tj_check hr G C W))))
  obtain ⟨tb, hb1, hb2⟩ := bd
  refine ⟨_, ps_for PassesOwn.never rfl (pi_range1 (by rfl) G.range (pa_cons (pe_ifExp (pt_cmpR (op_neD hu) (pe_ix ix_tup (pv 2) pe_int (fun _ _ => rfl)) (pe_tup pa_nil) (nomark _)) pe_int pe_int) pa_nil)) (pg_name (i := 16) scLaw.nd rfl (.inl rfl)) hb1, fun i D σ H hA kk => ?_⟩
  obtain ⟨c, p, e, cv, ys, x⟩ := hA
  have hc := x.hc
  obtain ⟨ca, cb, xs, rfl, h2, h3, h4⟩ := hc
  have i3 : atI [V.int c.g, V.int c.p, nonV c.b, .ref cb] ((3 : Nat) : Int) = some (.ref cb) := atI_nat rfl
  refine ⟨_, x.v2, ca, _, 3, _, rfl, rfl, SqT.of h2, i3, by show 0 ≤ sizeLine; decide, fun q hq => ?_⟩
  have e1 := Ex.new (H := H) (o := .tup []) hq
  refine ⟨.tuple (c.ws.map dWin), .tuple [], .tup (SqT.of (e1 _ _ h3)) (dpWs (Paired.mapP h4 fun _ _ ⟨b, k1, k2⟩ => ⟨b, k1, e1 _ _ k2⟩)), .tup (SqT.of upd_same) .nil, wsT_shaped _, rfl, _, rfl, ?_⟩
  rw [wins_nil]
  by_cases hw : 0 < c.ws.length
  · have hne : c.ws.isEmpty = false := by
      cases h : c.ws with
      | nil => rw [h] at hw; exact absurd hw (by decide)
      | cons _ _ => rfl
    rw [hne]
    refine ite2 (fun _ => ?_) fun z => absurd rfl z
    refine ⟨4, rfl, by decide, by decide, for_range (lo := 0) (n := 4) (fun i σ H => J0 K T a ns i σ H) ⟨c, p, e, .ref ca, ys, x.ex e1, hw⟩ (fun i σ' H' hi p1 => ?_) fun σ' H' p1 => ?_⟩
    · obtain ⟨c, p, e, cv, ys, x, hw⟩ := p1
      exact hb2 i _ _ _ ⟨c, p, e, cv, ys, x.set (by decide), hw⟩ fun σ'' H'' b => b
    · obtain ⟨c, p, e, cv, ys, x, hw⟩ := p1
      exact kk _ _ ⟨c, p, e, cv, ys, x⟩
  · have hne : c.ws.isEmpty = true := by
      cases h : c.ws with
      | nil => rfl
      | cons _ _ => rw [h] at hw; exact absurd (Nat.succ_pos _) hw
    rw [hne]
    refine ite2 (fun z => nomatch z) fun _ => ?_
    refine ⟨0, rfl, by decide, by decide, for_range (lo := 0) (n := 0) (fun i σ H => B3 K T a ns i σ H) ⟨c, p, e, .ref ca, ys, x.ex e1⟩ (fun i σ' H' hi p1 => absurd hi (Nat.not_lt_zero _)) fun σ' H' p1 => kk _ _ p1⟩
end
end K04
set_option Elab.async false
set_option linter.all false
set_option maxRecDepth 100000
set_option maxHeartbeats 4000000
namespace Pu
open PySem PySem.Spec PyProof.Rows L2 GxR Evl
/-- x is True, x a whole number, None or a truth -/
def isTr : V → Option Bool
  | .int _ => some false
  | .non => some false
  | .bl b => some b
  | _ => none
theorem op_isTr {X : Cx} : OpR X (compareOp .Is) (fun x y H Q => ∃ b, isTr x = some b ∧ y = .bl true ∧ Q (.bl b) H) := by
  intro pins s σ H x y v u Q I rx ry h
  obtain ⟨b, hb, rfl, q⟩ := h
  cases (show u = Value.bool true from ry)
  have no : ∀ {v : Value}, plainIs v (.bool true) = true → v ≠ .bool true → Q (.bl false) H → wpAny (model X.prog X.w) X.A (compareOp .Is v (.bool true)) (EP X pins σ Q) X.xe s := fun p n q => wpAny_is_other p n ⟨.bl false, H, I, rfl, q⟩
  cases x with
  | int i =>
    obtain ⟨t, rfl⟩ := rx
    cases hb
    exact no rfl (fun z => nomatch z) q
  | non =>
    cases (show v = Value.none from rx)
    cases hb
    exact no rfl (fun z => nomatch z) q
  | bl a =>
    cases (show v = Value.bool a from rx)
    cases hb
    cases b with
    | true => exact wpAny_is_self rfl ⟨.bl true, H, I, rfl, q⟩
    | false => exact no rfl (fun z => nomatch z) q
  | _ => cases hb
end Pu
namespace K04
open PySem PySem.Spec PyProof.Rows L2 GxR Pu Evl
def Cl.d : Cl → PyData
  | .int i => .int i
  | .non => .none
  | .bl b => .bool b
def Cl.t : Cl → Bool
  | .bl b => b
  | _ => false
theorem hold_nil_cons {g p : Int} {b : Option Int} {z : Cl} {zs : List Cl} : hold g p b [] (z :: zs) = false := by cases z <;> rfl
theorem hold_iff {g p : Int} (hg : 0 ≤ g) : ∀ {ws : List Chn.Win} {zs : List Cl} {b : Option Int}, (∀ n, b = some n → 0 ≤ n) → (hold g p b ws zs = true ↔ ∃ l : List Int, zs = l.map Cl.int ∧ Chn.Sol g p (Chn.first g p b) ws l) := by
  intro ws
  induction ws with
  | nil =>
    intro zs b hb
    cases zs with
    | nil => exact ⟨fun _ => ⟨[], rfl, trivial⟩, fun _ => rfl⟩
    | cons z zs =>
      rw [hold_nil_cons]
      refine ⟨fun h => (nomatch h), fun ⟨l, h1, h2⟩ => ?_⟩
      cases l with
      | nil => cases h1
      | cons x l => exact h2.elim
  | cons w ws ih =>
    intro zs b hb
    have s0 : 0 ≤ (Chn.first g p b).1 := by
      cases b with
      | none => exact Int.le_refl 0
      | some n =>
        have := hb n rfl
        show 0 ≤ n + g
        omega
    cases zs with
    | nil =>
      refine ⟨fun h => ?_, fun ⟨l, h1, h2⟩ => ?_⟩
      · cases b <;> cases h
      · cases l with
        | nil => exact h2.elim
        | cons x l => cases h1
    | cons z zs =>
      cases z with
      | int x =>
        rw [hold_cons, Bool.and_eq_true, Bool.and_eq_true, Bool.and_eq_true, decide_eq_true_eq, decide_eq_true_eq, decide_eq_true_eq]
        constructor
        · rintro ⟨h0, h1, h2, h3⟩
          obtain ⟨l, rfl, hl⟩ := (ih (b := some x) (fun n e => by cases e; exact h0)).mp h3
          have a := Chn.cut_lo (s := Chn.first g p b) (w := w)
          have c := Chn.cut_hi (s := Chn.first g p b) (w := w)
          refine ⟨x :: l, rfl, ⟨by omega, by omega⟩, ⟨by omega, fun h e => ?_⟩, hl⟩
          have := c.2 h e
          omega
        · rintro ⟨l, h1, h2⟩
          cases l with
          | nil => cases h1
          | cons y l =>
            obtain ⟨e1, e2⟩ := List.cons.inj h1
            cases e1
            obtain ⟨⟨a, c⟩, ⟨d, f⟩, k⟩ := h2
            obtain ⟨i1, i2⟩ := Chn.cut_in a c d f
            refine ⟨by omega, i1, i2, (ih (b := some x) (fun n e => by cases e; omega)).mpr ⟨l, e2, k⟩⟩
      | non =>
        refine ⟨fun h => ?_, fun ⟨l, h1, h2⟩ => ?_⟩
        · cases b <;> cases h
        · cases l <;> cases h1
      | bl k =>
        refine ⟨fun h => ?_, fun ⟨l, h1, h2⟩ => ?_⟩
        · cases b <;> cases h
        · cases l <;> cases h1
theorem eqv_ints : ∀ (l : List Int) (zs : List Cl), (∀ z ∈ zs, ∀ k, z ≠ .bl k) → (PyData.eqvAll (l.map PyData.int) (zs.map Cl.d) = true ↔ zs = l.map Cl.int)
  | [], [], _ => ⟨fun _ => rfl, fun _ => rfl⟩
  | [], z :: zs, _ => ⟨fun h => (nomatch h), fun h => nomatch h⟩
  | x :: l, [], _ => ⟨fun h => (nomatch h), fun h => nomatch h⟩
  | x :: l, z :: zs, ok => by
    have ih := eqv_ints l zs fun z hz => ok z (List.mem_cons_of_mem _ hz)
    have o1 := ok z (List.mem_cons_self ..)
    show ((PyData.eqv (.int x) z.d && PyData.eqvAll (l.map PyData.int) (zs.map Cl.d)) = true) ↔ _
    rw [Bool.and_eq_true, ih]
    cases z with
    | int y =>
      have e : (PyData.eqv (.int x) (Cl.d (.int y)) = true) ↔ x = y := by
        show (PyData.eqv (.int x) (.int y) = true) ↔ _
        simp [PyData.eqv]
      rw [e]
      exact ⟨fun ⟨a, b⟩ => by rw [a, b]; rfl, fun h => by
        obtain ⟨a, b⟩ := List.cons.inj h
        cases a
        exact ⟨rfl, b⟩⟩
    | non => exact ⟨fun ⟨a, _⟩ => (nomatch a), fun h => nomatch h⟩
    | bl k => exact absurd rfl (o1 k)
/-- what the law says is right -/
def rightB (c : Ch) (zs : List Cl) : Bool := ((c.lines.map dInts).any fun z => PyData.eqv z (.tuple (zs.map Cl.d))) && (zs.filter Cl.t).isEmpty
theorem right_hold {c : Ch} (sm : c.Small) {zs : List Cl} (ok : Cl.bl false ∉ zs) : rightB c zs = hold c.g c.p (c.b.map fun n => (n : Int)) (c.ws.map winI) zs := by
  have hb : ∀ n : Int, (c.b.map fun n => (n : Int)) = some n → 0 ≤ n := fun n e => by
    cases h : c.b with
    | none => rw [h] at e; cases e
    | some m =>
      rw [h] at e
      cases e
      show (0 : Int) ≤ (m : Int)
      omega
  have h := hold_iff (g := c.g) (p := c.p) (by omega) (ws := c.ws.map winI) (zs := zs) hb
  rw [Bool.eq_iff_iff, h]
  unfold rightB
  rw [Bool.and_eq_true, List.isEmpty_iff, List.filter_eq_nil_iff, List.any_eq_true]
  constructor
  · rintro ⟨⟨y, hy, he⟩, hn⟩
    obtain ⟨l, hl, rfl⟩ := List.mem_map.mp hy
    have e2 : PyData.eqvAll (l.map PyData.int) (zs.map Cl.d) = true := by
      have he' : PyData.eqv (.tuple (l.map PyData.int)) (.tuple (zs.map Cl.d)) = true := he
      rw [PyData.eqv] at he'
      exact he'
    refine ⟨l, (eqv_ints l zs fun z hz k e => ?_).mp e2, mem_ln.mp hl⟩
    cases k with
    | true => exact hn z hz (by rw [e]; rfl)
    | false => rw [e] at hz; exact ok hz
  · rintro ⟨l, rfl, hl⟩
    refine ⟨⟨_, List.mem_map.mpr ⟨l, mem_ln.mpr hl, rfl⟩, ?_⟩, fun z hz => ?_⟩
    · show PyData.eqv (.tuple (l.map PyData.int)) (.tuple _) = true
      rw [PyData.eqv]
      refine (eqv_ints l (l.map Cl.int) fun z hz k e => ?_).mpr rfl
      obtain ⟨i, _, rfl⟩ := List.mem_map.mp hz
      cases e
    · obtain ⟨i, _, rfl⟩ := List.mem_map.mp hz
      exact fun z => nomatch z
theorem cl_isTr (z : Cl) : isTr z.v = some z.t := by cases z <;> rfl
theorem dpCl {K : PySem.W.Frag} {H : Hp} (zs : List Cl) : DpAll K H (zs.map Cl.v) (zs.map Cl.d) := by
  induction zs with
  | nil => exact .nil
  | cons z zs ih =>
    cases z with
    | int i => exact .cons (.int i) ih
    | non => exact .cons .non ih
    | bl b => exact .cons (.bl b) ih
theorem cl_shaped (zs : List Cl) : SeqAt.shaped (.tuple (zs.map Cl.d)) = true := by
  have h : PyData.canLayAll0 (zs.map Cl.d) = true ∧ PyData.depthAll (zs.map Cl.d) = 0 := by
    induction zs with
    | nil => exact ⟨rfl, rfl⟩
    | cons z zs ih =>
      refine ⟨?_, ?_⟩
      · show (PyData.canLay0 z.d && PyData.canLayAll0 (zs.map Cl.d)) = true
        rw [ih.1]
        cases z <;> rfl
      · show max (PyData.depth z.d) (PyData.depthAll (zs.map Cl.d)) = 0
        rw [ih.2]
        cases z <;> rfl
  unfold SeqAt.shaped
  have h3 : PyData.canLay0 (.tuple (zs.map Cl.d)) = true := h.1
  have h4 : PyData.depth (.tuple (zs.map Cl.d)) ≤ 64 := by
    show PyData.depthAll (zs.map Cl.d) + 1 ≤ 64
    rw [h.2]
    decide
  rw [h3, decide_eq_true h4]
  rfl
def spPick2 : Sp := fun vs H Q _ => ∃ (p q : Addr) (ys : List V), vs = [.ref p, .ref q] ∧ BoxAt H p ∧ H q = some (.lst ys) ∧ q ≠ p ∧ 1 ≤ ys.length ∧ ys.length ≤ 100000 ∧ ∀ v H', v ∈ ys → ExB p H H' → Q v H'
section
variable {P : Program} {w : World} {K : PySem.W.Frag} {mg : Str → Option Value} {base : Heap}
variable {fTake : Addr} {dTake : FuncData}
theorem ok_pick2 {f : Addr} {fd : FuncData} (G : Mg mg) (F : Fun K "_law_pick" "_law_pick" sPick f fd) (F1 : Fns K mg "_law_take" ["_law_box_here", "_law_many"] sTake fTake dTake) : FnOk P w K mg base CX0 2 f fd ["_law_box_here", "_law_some"] spPick2 := by
  have G1 : FnOk P w K mg base CX0 1 fTake dTake ["_law_box_here", "_law_many"] spTake := ok_take G F1.fn
  refine F.ok scPick (fun vs H Q E h => ?_) (fun cdv A outer s H vs Q E hr h => ?_)
  · obtain ⟨p, q, ys, rfl, _⟩ := h
    rfl
  · obtain ⟨p, q, ys, rfl, hb, hq, hne, hl, hz, kk⟩ := h
    refine ⟨_, pss_one (ps_ret (pe_ix ix_list (pv 1) (pe_call G1 hr (by rfl) F1.mg F1.fn.kp F1.bd .nil pass0 (pa_cons (pv 0) (pa_cons (pe_callB call_len (by rfl) G.len boot_len (pa_cons (pv 1) pa_nil)) pa_nil))) (fun _ _ => rfl))), ?_⟩
    refine ⟨.ref q, rfl, .ref p, rfl, .ref q, rfl, .ref q, ys.length, rfl, .inl ⟨ys, SqL.of hq, rfl⟩, p, ys.length, rfl, hl, by omega, hb, fun d H' hd e => ?_⟩
    refine ⟨q, ys, d, ys[d], rfl, rfl, SqL.of (e.2 _ _ hne hq), atI_nat (List.getElem?_eq_getElem hd), kk _ H' (List.getElem_mem hd) e⟩
end
end K04
set_option Elab.async false
set_option linter.all false
set_option maxRecDepth 100000
set_option maxHeartbeats 4000000
namespace K04
open PySem PySem.Spec PyProof.Rows L2 GxR Pu Evl
/-- the script stays as long as only p, T, q change -/
def Scr2 (K : PySem.W.Frag) (T p q a : Addr) (ns : List Int) (H : Hp) : Prop := ∀ H', (∀ b o, b ≠ p → b ≠ T → b ≠ q → H b = some o → H' b = some o) → SqL K H' a (ns.map V.int)
/-- a line that the law may bend -/
structure Ln (K : PySem.W.Frag) (T a : Addr) (ns : List Int) (p e q : Addr) (zs : List Cl) (H : Hp) : Prop where
  np : q ≠ p
  ne : q ≠ e
  hq : H q = some (.lst (zs.map Cl.v))
  s2 : Scr2 K T p q a ns H
  l4 : zs.length ≤ 4
  ok : Cl.bl false ∉ zs
section
variable {P : Program} {w : World} {K : PySem.W.Frag} {mg : Str → Option Value} {base : Heap} {T a fa : Addr} {ns : List Int} {cdv : Value} {s0 : Shared} {H0 : Hp} {c : Ch} {p e q : Addr} {cv : V} {ys : List V} {zs : List Cl} {σ : L2.St} {H H' : Hp}
variable {fTake fPick : Addr} {dTake dPick : FuncData}
theorem Ln.new (x : Ctx K T a ns c p e cv ys σ H) (hn : H q = none) (s : Stp T p H H') (h : H' q = some (.lst (zs.map Cl.v))) (l4 : zs.length ≤ 4) (ok : Cl.bl false ∉ zs) : Ln K T a ns p e q zs H' :=
  ⟨Hs.new x.hs hn, fun z => (by have y := x.he; rw [← z, hn] at y; cases y), h, fun H'' k => x.hs.scr H'' fun b o n m z => k b o n m (fun y => (by rw [y, hn] at z; cases z)) (s.kp b o n m z), l4, ok⟩
theorem Ln.stp (l : Ln K T a ns p e q zs H) (hs : Hs K T a ns p H) (s : Stp T p H H') : Ln K T a ns p e q zs H' :=
  ⟨l.np, l.ne, s.lst hs l.np l.hq, fun H'' k => l.s2 H'' fun b o n m y z => k b o n m y (s.kp b o n m z), l.l4, l.ok⟩
theorem Ctx.bend {V' : List V} (x : Ctx K T a ns c p e cv ys σ H) (l : Ln K T a ns p e q zs H) : Ctx K T a ns c p e cv ys σ (upd H q (.lst V')) := by
  have tup : ∀ {b : Addr} {xs : List V}, H b = some (.tup xs) → upd H q (.lst V') b = some (.tup xs) := fun {b xs} h => by
    rw [upd_ne (fun z => by rw [z, l.hq] at h; cases h)]
    exact h
  obtain ⟨ps, t1, t2⟩ := x.hs.tab
  obtain ⟨g, s', b1, b2⟩ := x.hs.box
  have nT : T ≠ q := fun z => TabG.ne x.hs.tab l.hq (fun ps z => by cases z) z.symm
  refine ⟨x.len, x.v0, x.v1, x.v2, x.v3, x.sm, ⟨⟨ps, by rw [upd_ne nT]; exact t1, t2⟩, ⟨g, s', by rw [upd_ne l.np.symm]; exact b1, b2⟩, fun H'' k => l.s2 H'' fun b o n m y z => k b o n m (by rw [upd_ne y]; exact z)⟩, ?_, x.ep, by rw [upd_ne l.ne.symm]; exact x.he, Paired.mapP x.hl fun _ _ ⟨b, k1, k2⟩ => ⟨b, k1, tup k2⟩, x.hn⟩
  obtain ⟨u, y, xs, h1, h2, h3, h4⟩ := x.hc
  exact ⟨u, y, xs, h1, tup h2, tup h3, Paired.mapP h4 fun _ _ ⟨b, k1, k2⟩ => ⟨b, k1, tup k2⟩⟩
theorem Ln.bend {zs' : List Cl} (l : Ln K T a ns p e q zs H) (l4 : zs'.length ≤ 4) (ok : Cl.bl false ∉ zs') : Ln K T a ns p e q zs' (upd H q (.lst (zs'.map Cl.v))) :=
  ⟨l.np, l.ne, upd_same, fun H'' k => l.s2 H'' fun b o n m y z => k b o n m y (by rw [upd_ne y]; exact z), l4, ok⟩
/-- the law has its line -/
def E0' (K : PySem.W.Frag) (T a : Addr) (ns : List Int) (_ : Nat) (σ : L2.St) (H : Hp) : Prop := ∃ c p e cv ys q zs, Ctx K T a ns c p e cv ys σ H ∧ σ[12]? = some (some (.ref q)) ∧ Ln K T a ns p e q zs H
theorem cl_ints (l : List Int) : (l.map Cl.int).map Cl.v = l.map V.int := by rw [List.map_map]; rfl
theorem ti_line (hr : Room 9 (LX P w K mg base fa cdv s0 H0).A) (G : Mg mg) (Cp : Cal P w K mg base "_law_pick" ["_law_box_here", "_law_some"] sPick 2 spPick2 fPick dPick) (Ct : Cal P w K mg base "_law_take" ["_law_box_here", "_law_many"] sTake 1 spTake fTake dTake) :
    Ti (LX P w K mg base fa cdv s0 H0) (forS 14) (B3 K T a ns) (E0' K T a ns) := by
  have hu : (LX P w K mg base fa cdv s0 H0).A.units + 64 < cLine := hr.units
  refine ⟨_, ps_set (i := 12) scLaw.nd rfl (.inl rfl) (pe_ifExp (pt_cmpR (op_neD hu) (pv 3) (pe_lst pa_nil) (nomark _))
    (pe_callTy (T := "list") call_list_of (by rfl) G.list (by decide +kernel) (pa_cons (pe_call Cp.ok (hr.mono (by decide)) (by rfl) Cp.ns.mg Cp.ns.fn.kp Cp.ns.bd .nil pass0 (pa_cons (pv 1) (pa_cons (pv 3) pa_nil))) pa_nil))
    (pe_lc (own := [("_law_window", 18)]) (te := tCall spTake [] E0 (tCons (tVar 1) (tCons (tC (.int 9)) tNil))) (by rfl) scLaw.nd (pi_tup (pe_ix ix_tup (pv 2) pe_int (fun _ _ => rfl))) (blkOk_by (own := [("_law_window", 18)]) (N := lawN) (sc := defScope sLaw) (by decide +kernel))
            (fun _ _ _ _ _ => pg_name (i := 18) scLaw.nd rfl (.inl rfl)) (fun _ _ _ _ _ => pts_nil) (fun _ _ _ _ _ => pe_call Ct.ok (hr.mono (by decide)) (by rfl) Ct.ns.mg Ct.ns.fn.kp Ct.ns.bd .nil pass0 (pa_cons (pv 1) (pa_cons pe_int pa_nil))))), fun i D σ H hA kk => ?_⟩
  obtain ⟨c, p, e, cv, ys, x⟩ := hA
  refine ⟨.ref e, x.v3, by show 0 ≤ sizeLine; decide, fun q hq => ?_⟩
  have e1 := Ex.new (H := H) (o := .lst []) hq
  have x1 := x.ex e1
  refine ⟨dLines c.lines, .list [], dpLines x1.he x1.hl, .lst (SqL.of upd_same) .nil, lines_shaped _, rfl, _, rfl, ?_⟩
  rw [lines_nil]
  have hyl : c.lines.length = ys.length := Paired.length x.hl
  have hln := x.hn
  by_cases hne : c.lines = []
  · have hi : c.lines.isEmpty = true := by rw [hne]; rfl
    rw [hi]
    refine ite2 (fun z => nomatch z) fun _ => ?_
    have hc := x1.hc
    obtain ⟨ca, cb, xs, rfl, h2, h3, h4⟩ := hc
    have i3 : atI [V.int c.g, V.int c.p, nonV c.b, .ref cb] ((3 : Nat) : Int) = some (.ref cb) := atI_nat rfl
    have hxl : c.ws.length = xs.length := Paired.length h4
    have wl := x.sm.wl
    refine ⟨_, x.v2, ca, _, 3, _, rfl, rfl, SqT.of h2, i3, cb, rfl, ⟨xs, SqT.of h3⟩, fun D' hD => ?_⟩
    refine lc_inv (walk_tup (K := K) (a := cb) (xs := xs)) (fun i H acc => ∃ zs, acc = zs.map Cl.v ∧ zs.length ≤ i ∧ i ≤ xs.length ∧ Ctx K T a ns c p e (.ref ca) ys σ H ∧ Ln K T a ns p e D' zs H ∧ H cb = some (.tup xs)) (by omega) ?_ (fun i H acc ⟨zs, _, _, _, _, _, h⟩ => SqT.of h) ?_ ?_
    · have e2 := Ex.new (H := _) (o := .lst []) hD
      exact ⟨[], rfl, Nat.le_refl _, Nat.zero_le _, x1.ex e2, Ln.new x1 hD (x1.hs.ex e2) upd_same (Nat.zero_le _) (fun z => nomatch z), e2 _ _ h3⟩
    · intro i y Ha Hb acc hi hDa hR yy Qy Qn hy hn
      obtain ⟨zs, rfl, hl, hi2, x2, ln, h3'⟩ := hR
      obtain ⟨rfl, hx⟩ := yy
      refine ⟨wipe1, yes_then ⟨_, wipe_ne x2.v1 (by decide), p, 9, rfl, by decide, by decide, x2.hs.box, fun d H5 hd e5 => ?_⟩⟩
      have s5 := x2.hs.exB e5
      have ln5 := ln.stp x2.hs s5
      have x5 := x2.step s5
      have es : zs.map Cl.v ++ [V.int (d : Int)] = (zs ++ [Cl.int (d : Int)]).map Cl.v := by rw [List.map_append]; rfl
      have h35 := s5.tup x2.hs h3'
      refine hy _ _ ln5.hq ⟨zs ++ [Cl.int (d : Int)], es, by rw [List.length_append, List.length_singleton]; omega, by omega, x5.bend ln5, ?_, ?_⟩
      · rw [es]
        refine ln5.bend (by rw [List.length_append, List.length_singleton]; omega) fun z => ?_
        rcases List.mem_append.mp z with z | z
        · exact ln5.ok z
        · cases List.mem_singleton.mp z
      · rw [upd_ne (fun z => by rw [z, ln5.hq] at h35; cases h35)]
        exact h35
    · intro H4 acc hD4 hR
      obtain ⟨zs, rfl, hl, hi2, x2, ln, h3'⟩ := hR
      exact kk _ _ ⟨c, p, e, .ref ca, ys, D', zs, x2.set (by decide), sl_eq (by rw [x.len]; decide), ln⟩
  · have hi : c.lines.isEmpty = false := by
      cases h : c.lines with
      | nil => exact absurd h hne
      | cons _ _ => rfl
    have hpos : 0 < c.lines.length := List.length_pos_iff.mpr hne
    rw [hi]
    refine ite2 (fun _ => ?_) fun z => absurd rfl z
    refine ⟨_, x.v1, _, x.v3, p, e, ys, rfl, x1.hs.box, x1.he, x1.ep, by omega, by omega, fun v H2 hv e2 => ?_⟩
    have s2 := x1.hs.exB e2
    have x2 := x1.step s2
    obtain ⟨m, hm⟩ := List.getElem?_of_mem hv
    obtain ⟨l, hlL, b, rfl, hb⟩ := Paired.at x2.hl hm
    have hll := (line_small x.sm (List.mem_of_getElem? hlL)).1
    have wl := x.sm.wl
    refine ⟨b, l.map V.int, rfl, .inr (SqT.of hb), fun r hr => ?_⟩
    have e3 := Ex.new hr (o := .lst (l.map V.int))
    refine kk _ _ ⟨c, p, e, cv, ys, r, l.map Cl.int, (x2.ex e3).set (by decide), sl_eq (by rw [x.len]; decide), Ln.new x2 hr (x2.hs.ex e3) (by rw [upd_same, cl_ints]) (by rw [List.length_map]; omega) fun z => ?_⟩
    obtain ⟨i, _, h⟩ := List.mem_map.mp z
    cases h
end
end K04
set_option Elab.async false
set_option linter.all false
set_option maxRecDepth 100000
set_option maxHeartbeats 4000000
namespace K04
open PySem PySem.Spec PyProof.Rows L2 GxR Pu Evl
theorem cl_shapedL (zs : List Cl) : SeqAt.shaped (.list (zs.map Cl.d)) = true := cl_shaped zs
theorem cl_nil (zs : List Cl) : PyData.eqv (.list (zs.map Cl.d)) (.list []) = zs.isEmpty := by cases zs <;> rfl
section
variable {P : Program} {w : World} {K : PySem.W.Frag} {mg : Str → Option Value} {base : Heap} {T a fa : Addr} {ns : List Int} {cdv : Value} {s0 : Shared} {H0 : Hp} {c : Ch} {p e q : Addr} {cv : V} {ys : List V} {zs : List Cl} {σ : L2.St} {H H' : Hp}
variable {fTake fPick : Addr} {dTake dPick : FuncData}
theorem ti_bend (hr : Room 9 (LX P w K mg base fa cdv s0 H0).A) (G : Mg mg) (Cp : Cal P w K mg base "_law_pick" ["_law_box_here", "_law_some"] sPick 2 spPick2 fPick dPick) (Ct : Cal P w K mg base "_law_take" ["_law_box_here", "_law_many"] sTake 1 spTake fTake dTake) :
    Ti (LX P w K mg base fa cdv s0 H0) (forS 15) (E0' K T a ns) (E0' K T a ns) := by
  have hu : (LX P w K mg base fa cdv s0 H0).A.units + 64 < cLine := hr.units
  refine ⟨_, ps_if (PW.pt (pw_and (pt_cmpR (op_neD hu) (pv 12) (pe_lst pa_nil) (nomark _)) (pw_and1 (pt_cmpR op_eq (pe_call Ct.ok (hr.mono (by decide)) (by rfl) Ct.ns.mg Ct.ns.fn.kp Ct.ns.bd .nil pass0 (pa_cons (pv 1) (pa_cons pe_int pa_nil))) pe_int (nomark _)))))
    (pss_one (ps_asg (pe_call Cp.ok (hr.mono (by decide)) (by rfl) Cp.ns.mg Cp.ns.fn.kp Cp.ns.bd .nil pass0 (pa_cons (pv 1) (pa_cons (pe_lst (pa_cons pe_int (pa_cons (pe_call Ct.ok (hr.mono (by decide)) (by rfl) Ct.ns.mg Ct.ns.fn.kp Ct.ns.bd .nil pass0 (pa_cons (pv 1) (pa_cons pe_int pa_nil))) (pa_cons pe_non (pa_cons pe_bl (pa_cons (pe_op op_sub pe_int pe_int) pa_nil)))))) pa_nil)))
      (pg_sub (pv 12) (pe_call Ct.ok (hr.mono (by decide)) (by rfl) Ct.ns.mg Ct.ns.fn.kp Ct.ns.bd .nil pass0 (pa_cons (pv 1) (pa_cons (pe_callB call_len (by rfl) G.len boot_len (pa_cons (pv 12) pa_nil)) pa_nil))) set_list (fun _ => rfl)))) pss_nil, fun i D σ H hA kk => ?_⟩
  obtain ⟨c, p, e, cv, ys, q, zs, x, v12, ln⟩ := hA
  have l4 := ln.l4
  refine ⟨.ref q, v12, by show 0 ≤ sizeLine; decide, fun q1 hq1 => ?_⟩
  have e1 := Ex.new (H := H) (o := .lst []) hq1
  have x1 := x.ex e1
  have ln1 := ln.stp x.hs (x.hs.ex e1)
  refine ⟨.list (zs.map Cl.d), .list [], .lst (SqL.of ln1.hq) (dpCl zs), .lst (SqL.of upd_same) .nil, cl_shapedL _, rfl, _, rfl, ?_⟩
  rw [cl_nil]
  cases hz : zs with
  | nil => 
    refine ite2 (fun z => nomatch z) fun _ => kk _ _ ⟨c, p, e, cv, ys, q, zs, x1, v12, ln1⟩
  | cons z1 zs1 =>
    have hpos : 0 < zs.length := by rw [hz]; exact Nat.succ_pos _
    clear hz
    refine ite2 (fun _ => ?_) fun z => absurd rfl z
    refine ⟨_, x.v1, p, 2, rfl, by decide, by decide, x1.hs.box, fun d2 H2 hd2 e2 => ?_⟩
    have s2 := x1.hs.exB e2
    have x2 := x1.step s2
    have ln2 := ln1.stp x1.hs s2
    refine ⟨rfl, _, rfl, ite2 (fun _ => ?_) fun _ => kk _ _ ⟨c, p, e, cv, ys, q, zs, x2, v12, ln2⟩⟩
    refine ⟨_, x.v1, _, x.v1, p, 20, rfl, by decide, by decide, x2.hs.box, fun d3 H3 hd3 e3 => ?_⟩
    have s3 := x2.hs.exB e3
    have x3 := x2.step s3
    have ln3 := ln2.stp x2.hs s3
    refine ⟨0, 1, rfl, rfl, by show 5 ≤ sizeLine; decide, fun r hr => ?_⟩
    have e4 := Ex.new hr (o := .lst [V.int 0, V.int (d3 : Int), V.non, V.bl true, V.int (0 - 1)])
    have x4 := x3.ex e4
    have ln4 := ln3.stp x3.hs (x3.hs.ex e4)
    refine ⟨p, r, [V.int 0, V.int (d3 : Int), V.non, V.bl true, V.int (0 - 1)], rfl, x4.hs.box, upd_same, Hs.new x3.hs hr, by show 1 ≤ 5; decide, by show 5 ≤ 100000; decide, fun v H5 hv e5 => ?_⟩
    have s5 := x4.hs.exB e5
    have x5 := x4.step s5
    have ln5 := ln4.stp x4.hs s5
    obtain ⟨y, rfl, hy⟩ : ∃ y : Cl, v = y.v ∧ y ≠ .bl false := by
      simp only [List.mem_cons, List.not_mem_nil, or_false] at hv
      rcases hv with rfl | rfl | rfl | rfl | rfl
      · exact ⟨.int 0, rfl, fun z => nomatch z⟩
      · exact ⟨.int d3, rfl, fun z => nomatch z⟩
      · exact ⟨.non, rfl, fun z => nomatch z⟩
      · exact ⟨.bl true, rfl, fun z => nomatch z⟩
      · exact ⟨.int (0 - 1), rfl, fun z => nomatch z⟩
    refine ⟨_, v12, _, x.v1, _, v12, .ref q, (zs.map Cl.v).length, rfl, .inl ⟨_, SqL.of ln5.hq, rfl⟩, p, zs.length, by rw [List.length_map]; rfl, hpos, by omega, x5.hs.box, fun d6 H6 hd6 e6 => ?_⟩
    have s6 := x5.hs.exB e6
    have x6 := x5.step s6
    have ln6 := ln5.stp x5.hs s6
    refine ⟨q, _, (d6 : Int), d6, rfl, rfl, ln6.hq, ixN_nat (by rw [List.length_map]; exact hd6), ?_⟩
    have es : (zs.map Cl.v).set d6 y.v = (zs.set d6 y).map Cl.v := by rw [List.map_set]
    refine kk _ _ ⟨c, p, e, cv, ys, q, zs.set d6 y, x6.bend ln6, v12, ?_⟩
    rw [es]
    refine ln6.bend (by rw [List.length_set]; omega) fun z => ?_
    rcases List.mem_or_eq_of_mem_set z with z | z
    · exact ln6.ok z
    · exact hy z.symm
end
end K04
set_option Elab.async false
set_option linter.all false
set_option maxRecDepth 100000
set_option maxHeartbeats 4000000
namespace Pu
open PySem PySem.Spec PyProof.Rows L2 GxR Evl
def rIsTr : V → V → Hp → VK → Prop := fun x y H Q => ∃ b, isTr x = some b ∧ y = .bl true ∧ Q (.bl b) H
theorem op_isTrR {X : Cx} : OpR X (compareOp .Is) rIsTr := op_isTr
/-- tuple(x) -/
def rTupOf (K : PySem.W.Frag) (xs : List V) (H : Hp) (Q : VK) : Prop := ∃ p ys, xs = [.ref p] ∧ ((SqL K H p ys ∧ ∀ l, H l = none → Q (.ref l) (upd H l (.tup ys))) ∨ (SqT K H p ys ∧ Q (.ref p) H))
end Pu
namespace K04
open PySem PySem.Spec PyProof.Rows L2 GxR Pu Evl
theorem clL_nil (zs : List Cl) : PyData.eqv (.list (zs.map Cl.d)) (.list []) = zs.isEmpty := cl_nil zs
/-- a line as a list, or as a tuple -/
def LT (H : Hp) (q : Addr) (xs : List V) : Prop := H q = some (.lst xs) ∨ H q = some (.tup xs)
section
variable {P : Program} {w : World} {K : PySem.W.Frag} {mg : Str → Option Value} {base : Heap} {T a fa : Addr} {ns : List Int} {cdv : Value} {s0 : Shared} {H0 : Hp} {c : Ch} {p e q : Addr} {cv : V} {ys : List V} {zs : List Cl} {σ : L2.St} {H H' : Hp}
variable {fTake fPick : Addr} {dTake dPick : FuncData}
theorem LT.stp {xs : List V} (h : LT H q xs) (n : q ≠ p) (hs : Hs K T a ns p H) (s : Stp T p H H') : LT H' q xs := by
  rcases h with h | h
  · exact .inl (s.lst hs n h)
  · exact .inr (s.tup hs h)
theorem LT.ex {xs : List V} (h : LT H q xs) (s : Ex H H') : LT H' q xs := h.imp (s _ _) (s _ _)
theorem LT.sq {xs : List V} (h : LT H q xs) : SqT K H q xs ∨ SqL K H q xs := h.symm.imp SqT.of SqL.of
/-- [one for one in x if one is True] == [] -/
theorem q_noTrue {j : Nat} (len : σ.length = 19) (hv : σ[j]? = some (some (.ref q))) (hs : LT H q (zs.map Cl.v)) (hl : zs.length ≤ 1000) {Q : VK} (k : ∀ H3, Ex H H3 → Q (.bl (zs.filter Cl.t).isEmpty) H3) :
    tOp (rEqD K) (tLc (iSeq K (tVar j)) (gName 17) (tTest (tOp rIsTr (tVar 17) (tC (.bl true)))) (tVar 17) [17]) (tLst tNil) σ H Q := by
  refine ⟨.ref q, hv, q, zs.map Cl.v, rfl, hs.sq, fun J Gd wk hG D' hD => ?_⟩
  refine lc_gen wk (fun m H' acc => acc = ((zs.take m).filter Cl.t).map Cl.v) (by rw [List.length_map]; omega) hD (fun m H xs ys acc h r => r) rfl hG ?_ ?_
  · intro m y Ha Hb acc hi ex yy hR Qy Qn hy hn
    obtain ⟨rfl, hx⟩ := yy
    rw [List.getElem?_map] at hx
    obtain ⟨z, hz, rfl⟩ : ∃ z, zs[m]? = some z ∧ z.v = y := by
      cases h : zs[m]? with
      | none => rw [h] at hx; cases hx
      | some z => rw [h] at hx; exact ⟨z, rfl, Option.some.inj hx⟩
    have tk : zs.take (m + 1) = zs.take m ++ [z] := by rw [List.take_add_one, hz]; rfl
    refine ⟨wipe1, z.v, wipe_at (by rw [len]; decide), z.t, cl_isTr z, rfl, z.t, rfl, ite2 (fun ht => ?_) fun ht => ?_⟩
    · refine ⟨z.v, wipe_at (by rw [len]; decide), hy _ _ (Ex.refl _) ?_⟩
      rw [tk, List.filter_append, List.filter_cons, if_pos ht, hR, List.map_append]
      rfl
    · refine hn _ (Ex.refl _) ?_
      rw [tk, List.filter_append, List.filter_cons, if_neg ht, hR]
      simp
  · intro H4 acc e4 hD4 hR
    rw [List.length_map, List.take_length] at hR
    subst hR
    refine ⟨by show 0 ≤ sizeLine; decide, fun q2 hq2 => ?_⟩
    have e5 := Ex.new hq2 (o := .lst [])
    refine ⟨.list ((zs.filter Cl.t).map Cl.d), .list [], .lst (SqL.of (e5 _ _ hD4)) (dpCl _), .lst (SqL.of upd_same) .nil, cl_shapedL _, rfl, ?_⟩
    rw [clL_nil]
    exact k _ (e4.trans e5)
/-- tuple(x) in lines and none of it is True -/
theorem q_right {j : Nat} (x : Ctx K T a ns c p e cv ys σ H) (hv : σ[j]? = some (some (.ref q))) (hs : LT H q (zs.map Cl.v)) (hl : zs.length ≤ 1000) {Q : VK} (k : ∀ H3, Ex H H3 → Q (.bl (rightB c zs)) H3) :
    tAndV (tOp (rInD K) (tCB (rTupOf K) (tCons (tVar j) tNil)) (tVar 3)) (tOp (rEqD K) (tLc (iSeq K (tVar j)) (gName 17) (tTest (tOp rIsTr (tVar 17) (tC (.bl true)))) (tVar 17) [17]) (tLst tNil)) σ H Q := by
  have two : ∀ r H1, Ex H H1 → H1 r = some (.tup (zs.map Cl.v)) → (tVar 3) σ H1 fun y H2 => rInD K (.ref r) y H2 fun x H1 => ∃ c', x = .bl c' ∧ if c' = true then (tOp (rEqD K) (tLc (iSeq K (tVar j)) (gName 17) (tTest (tOp rIsTr (tVar 17) (tC (.bl true)))) (tVar 17) [17]) (tLst tNil)) σ H1 Q else Q (.bl false) H1 := fun r H1 e1 hr => by
    have x1 := x.ex e1
    refine ⟨_, x.v3, .tuple (zs.map Cl.d), c.lines.map dInts, .tup (SqT.of hr) (dpCl zs), dpLines x1.he x1.hl, cl_shaped _, lines_shaped _, _, rfl, ?_⟩
    refine ite2 (fun z => ?_) fun z => ?_
    · refine q_noTrue x.len hv (hs.ex e1) hl fun H3 e3 => ?_
      have := k H3 (e1.trans e3)
      unfold rightB at this
      rw [z, Bool.true_and] at this
      exact this
    · have := k H1 e1
      unfold rightB at this
      rw [Bool.not_eq_true] at z
      rw [z, Bool.false_and] at this
      exact this
  rcases hs with h | h
  · refine ⟨.ref q, hv, q, zs.map Cl.v, rfl, .inl ⟨SqL.of h, fun r hr => ?_⟩⟩
    exact two r _ (Ex.new hr) upd_same
  · refine ⟨.ref q, hv, q, zs.map Cl.v, rfl, .inr ⟨SqT.of h, ?_⟩⟩
    exact two q _ (Ex.refl H) h
/-- what is right about the line is told -/
def E1' (K : PySem.W.Frag) (T a : Addr) (ns : List Int) (_ : Nat) (σ : L2.St) (H : Hp) : Prop := ∃ c p e cv ys q zs, Ctx K T a ns c p e cv ys σ H ∧ σ[12]? = some (some (.ref q)) ∧ Ln K T a ns p e q zs H ∧ σ[13]? = some (some (.bl (rightB c zs)))
theorem ti_right (hr : Room 9 (LX P w K mg base fa cdv s0 H0).A) (G : Mg mg) : Ti (LX P w K mg base fa cdv s0 H0) (forS 16) (E0' K T a ns) (E1' K T a ns) := by
  have hu : (LX P w K mg base fa cdv s0 H0).A.units + 64 < cLine := hr.units
  have hu5 : (LX P w K mg base fa cdv s0 H0).A.units + 65 < cLine := by have := hr.un; omega
  refine ⟨_, ps_set (i := 13) scLaw.nd rfl (.inl rfl) (pe_and (pe_cmpR (op_inD hu5) (pe_callTy (T := "tuple") call_tuple_of (by rfl) G.tuple (by decide +kernel) (pa_cons (pv 12) pa_nil)) (pv 3) (by rfl))
    (pe_one (pe_cmpR (op_eqD hu) (pe_lc (own := [("_law_one", 17)]) (te := tVar 17) (tt := tTest (tOp rIsTr (tVar 17) (tC (.bl true)))) (by rfl) scLaw.nd (pi_seq (pv 12)) (blkOk_by (own := [("_law_one", 17)]) (N := lawN) (sc := defScope sLaw) (by decide +kernel))
      (fun _ _ _ _ _ => pg_name (i := 17) scLaw.nd rfl (.inl rfl)) (fun _ _ _ _ _ => pts_one (pt_cmpR op_isTrR (pv 17) pe_bl (nomark _))) (fun _ _ _ _ _ => pv 17)) (pe_lst pa_nil) (by rfl)))), fun i D σ H hA kk => ?_⟩
  obtain ⟨c, p, e, cv, ys, q, zs, x, v12, ln⟩ := hA
  have l4 := ln.l4
  refine q_right (K := K) x v12 (.inl ln.hq) (by omega) fun H3 e3 => ?_
  exact kk _ _ ⟨c, p, e, cv, ys, q, zs, (x.ex e3).set (by decide), sl_ne v12 (by decide), ln.stp x.hs (x.hs.ex e3), sl_eq (by rw [x.len]; decide)⟩
end
end K04
set_option Elab.async false
set_option linter.all false
set_option maxRecDepth 100000
set_option maxHeartbeats 4000000
namespace K04
open PySem PySem.Spec PyProof.Rows L2 GxR Pu Evl
theorem cut_one (xs : List V) : cutV xs (some (1 : Int)) none = xs.drop 1 := by
  unfold cutV
  rw [HT.sIx_none, show (1 : Int) = ((1 : Nat) : Int) by rfl, HT.sIx_nat]
  cases xs with
  | nil => rfl
  | cons x l =>
    rw [Nat.min_eq_left (by rw [List.length_cons]; omega), List.take_of_length_le (by rw [List.length_drop]; omega)]
/-- a value that is asked, and whether it is right -/
def ValB (c : Ch) (p : Addr) (H : Hp) (v : V) (b : Bool) : Prop := ((v = .non ∨ v = .int 5 ∨ v = .str "12") ∧ b = false) ∨ ∃ q zs, v = .ref q ∧ q ≠ p ∧ LT H q (zs.map Cl.v) ∧ zs.length ≤ 10 ∧ Cl.bl false ∉ zs ∧ b = rightB c zs
section
variable {P : Program} {w : World} {K : PySem.W.Frag} {mg : Str → Option Value} {base : Heap} {T a fa : Addr} {ns : List Int} {cdv : Value} {s0 : Shared} {H0 : Hp} {c : Ch} {p e q : Addr} {cv : V} {ys : List V} {zs : List Cl} {σ : L2.St} {H H' : Hp}
variable {fTake fPick fH : Addr} {dTake dPick dH : FuncData}
theorem ValB.stp {v : V} {b : Bool} (h : ValB c p H v b) (hs : Hs K T a ns p H) (s : Stp T p H H') : ValB c p H' v b := by
  rcases h with h | ⟨q, zs, h1, h2, h3, h4⟩
  · exact .inl h
  · exact .inr ⟨q, zs, h1, h2, h3.stp h2 hs s, h4⟩
theorem ValB.hold {v : V} {b : Bool} (sm : c.Small) (h : ValB c p H v b) : HoldB K H c v b := by
  rcases h with ⟨h, rfl⟩ | ⟨q, zs, h1, h2, h3, h4, h5, rfl⟩
  · rcases h with rfl | rfl | rfl
    · exact .inl ⟨⟨_, fun g => .non, rfl⟩, rfl⟩
    · exact .inl ⟨⟨_, fun g => .int _, rfl⟩, rfl⟩
    · exact .inl ⟨⟨_, fun g => .str _, rfl⟩, rfl⟩
  · exact .inr ⟨q, zs, h1, h3.sq, by omega, right_hold sm h5⟩
/-- the value is drawn -/
def E2' (K : PySem.W.Frag) (T a : Addr) (ns : List Int) (_ : Nat) (σ : L2.St) (H : Hp) : Prop := ∃ c p e cv ys q zs v b, Ctx K T a ns c p e cv ys σ H ∧ σ[12]? = some (some (.ref q)) ∧ Ln K T a ns p e q zs H ∧ σ[13]? = some (some (.bl (rightB c zs))) ∧ σ[14]? = some (some v) ∧ ValB c p H v b
def E3' (K : PySem.W.Frag) (T a : Addr) (ns : List Int) (_ : Nat) (σ : L2.St) (H : Hp) : Prop := ∃ c p e cv ys q zs v b, Ctx K T a ns c p e cv ys σ H ∧ σ[12]? = some (some (.ref q)) ∧ Ln K T a ns p e q zs H ∧ σ[13]? = some (some (.bl (rightB c zs))) ∧ σ[14]? = some (some v) ∧ ValB c p H v b ∧ σ[6]? = some (some (.bl b))
theorem ti_value (hr : Room 9 (LX P w K mg base fa cdv s0 H0).A) (G : Mg mg) (Cp : Cal P w K mg base "_law_pick" ["_law_box_here", "_law_some"] sPick 2 spPick2 fPick dPick) : Ti (LX P w K mg base fa cdv s0 H0) (forS 17) (E1' K T a ns) (E2' K T a ns) := by
  refine ⟨_, ps_set (i := 14) scLaw.nd rfl (.inl rfl) (pe_call Cp.ok (hr.mono (by decide)) (by rfl) Cp.ns.mg Cp.ns.fn.kp Cp.ns.bd .nil pass0 (pa_cons (pv 1) (pa_cons (pe_lst (pa_cons (pv 12) (pa_cons (pe_callTy (T := "tuple") call_tuple_of (by rfl) G.tuple (by decide +kernel) (pa_cons (pv 12) pa_nil))
    (pa_cons (pe_op op_cat (pv 12) (pe_lst (pa_cons pe_int pa_nil))) (pa_cons (pe_slice sl_list (pv 12) (po_some pe_int) po_none) (pa_cons pe_non (pa_cons pe_int (pa_cons pe_str pa_nil)))))))) pa_nil))), fun i D σ H hA kk => ?_⟩
  obtain ⟨c, p, e, cv, ys, q, zs, x, v12, ln, v13⟩ := hA
  have l4 := ln.l4
  refine ⟨_, x.v1, _, v12, _, v12, q, zs.map Cl.v, rfl, .inl ⟨SqL.of ln.hq, fun r1 hr1 => ?_⟩⟩
  have e1 := Ex.new hr1 (o := .tup (zs.map Cl.v))
  refine ⟨_, v12, by show 1 ≤ sizeLine; decide, fun r2 hr2 => ?_⟩
  have e2 := Ex.new hr2 (o := .lst [V.int 9])
  refine ⟨q, r2, zs.map Cl.v, [V.int 9], rfl, rfl, (e1.trans e2) _ _ ln.hq, upd_same, ?_, fun r3 hr3 => ?_⟩
  · rw [List.length_map]
    exact Nat.le_trans (show zs.length + 1 ≤ 5 by omega) (by decide)
  have e3 := Ex.new hr3 (o := .lst (zs.map Cl.v ++ [V.int 9]))
  refine ⟨_, v12, 1, rfl, q, zs.map Cl.v, rfl, SqL.of ((e1.trans (e2.trans e3)) _ _ ln.hq), fun r4 hr4 => ?_⟩
  rw [cut_one]
  have e4 := Ex.new hr4 (o := .lst ((zs.map Cl.v).drop 1))
  refine ⟨by show 7 ≤ sizeLine; decide, fun r5 hr5 => ?_⟩
  have e5 := Ex.new hr5 (o := .lst [.ref q, .ref r1, .ref r3, .ref r4, .non, .int 5, .str "12"])
  have ex := e1.trans (e2.trans (e3.trans (e4.trans e5)))
  have x5 := x.ex ex
  have ln5 := ln.stp x.hs (x.hs.ex ex)
  refine ⟨p, r5, [.ref q, .ref r1, .ref r3, .ref r4, .non, .int 5, .str "12"], rfl, x5.hs.box, upd_same, Hs.new x.hs (fresh_back (e1.trans (e2.trans (e3.trans e4))) hr5), by show 1 ≤ 7; decide, by show 7 ≤ 100000; decide, fun v H6 hv e6 => ?_⟩
  have s6 := x5.hs.exB e6
  have x6 := x5.step s6
  have ln6 := ln5.stp x5.hs s6
  have vb : ∃ b, ValB c p H6 v b := by
    have n1 : r1 ≠ p := Hs.new x.hs hr1
    have n3 : r3 ≠ p := Hs.new x.hs (fresh_back (e1.trans e2) hr3)
    have n4 : r4 ≠ p := Hs.new x.hs (fresh_back (e1.trans (e2.trans e3)) hr4)
    simp only [List.mem_cons, List.not_mem_nil, or_false] at hv
    rcases hv with rfl | rfl | rfl | rfl | rfl | rfl | rfl
    · exact ⟨_, .inr ⟨q, zs, rfl, ln.np, .inl ln6.hq, by omega, ln.ok, rfl⟩⟩
    · exact ⟨_, .inr ⟨r1, zs, rfl, n1, .inr (s6.tup x5.hs ((e2.trans (e3.trans (e4.trans e5))) _ _ upd_same)), by omega, ln.ok, rfl⟩⟩
    · refine ⟨_, .inr ⟨r3, zs ++ [Cl.int 9], rfl, n3, .inl ?_, by rw [List.length_append, List.length_singleton]; omega, fun z => ?_, rfl⟩⟩
      · rw [List.map_append]
        exact s6.lst x5.hs n3 ((e4.trans e5) _ _ upd_same)
      · rcases List.mem_append.mp z with z | z
        · exact ln.ok z
        · cases List.mem_singleton.mp z
    · refine ⟨_, .inr ⟨r4, zs.drop 1, rfl, n4, .inl ?_, by rw [List.length_drop]; omega, fun z => ln.ok (List.mem_of_mem_drop z), rfl⟩⟩
      rw [List.map_drop]
      exact s6.lst x5.hs n4 (e5 _ _ upd_same)
    · exact ⟨_, .inl ⟨.inl rfl, rfl⟩⟩
    · exact ⟨_, .inl ⟨.inr (.inl rfl), rfl⟩⟩
    · exact ⟨_, .inl ⟨.inr (.inr rfl), rfl⟩⟩
  obtain ⟨b, vb⟩ := vb
  exact kk _ _ ⟨c, p, e, cv, ys, q, zs, v, b, x6.set (by decide), sl_ne v12 (by decide), ln6, sl_ne v13 (by decide), sl_eq (by rw [x.len]; decide), vb⟩
end
end K04
set_option Elab.async false
set_option linter.all false
set_option maxRecDepth 100000
set_option maxHeartbeats 4000000
namespace K04
open PySem PySem.Spec PyProof.Rows L2 GxR Pu Evl
theorem kits2 {K : PySem.W.Frag} {t : String} {b1 b2 : Bool} (h1 : kitB t "list" = some b1) (h2 : kitB t "tuple" = some b2) : PySem.W.kitAny K (.type t) [.type "list", .type "tuple"] = some (b1 || b2) :=
  kitAny_cons (kit_ty h1) (fun e => kitAny_cons (kit_ty h2) (fun e2 => by rw [e, e2]; exact kitAny_nil) (fun e2 => by rw [e2]; simp)) (fun e => by rw [e]; rfl)
section
variable {P : Program} {w : World} {K : PySem.W.Frag} {mg : Str → Option Value} {base : Heap} {T a fa : Addr} {ns : List Int} {cdv : Value} {s0 : Shared} {H0 : Hp} {c : Ch} {p e q : Addr} {cv : V} {ys : List V} {zs : List Cl} {σ : L2.St} {H H' : Hp}
variable {fTake fPick fH : Addr} {dTake dPick dH : FuncData}
theorem ti_due2 (hr : Room 9 (LX P w K mg base fa cdv s0 H0).A) (G : Mg mg) : Ti (LX P w K mg base fa cdv s0 H0) (forS 18) (E2' K T a ns) (E3' K T a ns) := by
  have hu : (LX P w K mg base fa cdv s0 H0).A.units + 64 < cLine := hr.units
  have hu5 : (LX P w K mg base fa cdv s0 H0).A.units + 65 < cLine := by have := hr.un; omega
  refine ⟨_, ps_set (i := 6) scLaw.nd rfl (.inl rfl) (pe_and (pe_callB call_isiT (by rfl) G.isinstance boot_isinstance (pa_cons (pv 14) (pa_cons (pe_tup (pa_cons (pe_bltn (v := .ty "list") (by rfl) G.list (by decide +kernel) rfl) (pa_cons (pe_bltn (v := .ty "tuple") (by rfl) G.tuple (by decide +kernel) rfl) pa_nil))) pa_nil)))
    (pe_and (pe_cmpR (op_inD hu5) (pe_callTy (T := "tuple") call_tuple_of (by rfl) G.tuple (by decide +kernel) (pa_cons (pv 14) pa_nil)) (pv 3) (by rfl))
    (pe_one (pe_cmpR (op_eqD hu) (pe_lc (own := [("_law_one", 17)]) (te := tVar 17) (tt := tTest (tOp rIsTr (tVar 17) (tC (.bl true)))) (by rfl) scLaw.nd (pi_seq (pv 14)) (blkOk_by (own := [("_law_one", 17)]) (N := lawN) (sc := defScope sLaw) (by decide +kernel))
      (fun _ _ _ _ _ => pg_name (i := 17) scLaw.nd rfl (.inl rfl)) (fun _ _ _ _ _ => pts_one (pt_cmpR op_isTrR (pv 17) pe_bl (nomark _))) (fun _ _ _ _ _ => pv 17)) (pe_lst pa_nil) (by rfl))))), fun i D σ H hA kk => ?_⟩
  obtain ⟨c, p, e, cv, ys, q, zs, v, b, x, v12, ln, v13, v14, vb⟩ := hA
  have fin : ∀ H3, Ex H H3 → D.nx (σ.set 6 (some (.bl b))) H3 := fun H3 e3 => kk _ _ ⟨c, p, e, cv, ys, q, zs, v, b, (x.ex e3).set (by decide), sl_ne v12 (by decide), ln.stp x.hs (x.hs.ex e3), sl_ne v13 (by decide), sl_ne v14 (by decide), vb.stp x.hs (x.hs.ex e3), sl_eq (by rw [x.len]; decide)⟩
  refine ⟨v, v14, by show 2 ≤ sizeLine; decide, fun r hr => ?_⟩
  have e1 := Ex.new hr (o := .tup [.ty "list", .ty "tuple"])
  have x1 := x.ex e1
  have pr : Paired ClsV [.ty "list", .ty "tuple"] [.type "list", .type "tuple"] := .cons (.ty _) (.cons (.ty _) .nil)
  rcases vb with ⟨hv, rfl⟩ | ⟨q', zs', rfl, np, lt, l10, ok, rfl⟩
  · rcases hv with rfl | rfl | rfl
    · exact ⟨_, r, _, _, _, _, rfl, upd_same, pr, .base .non, kits2 (t := "NoneType") (b1 := false) (b2 := false) (by decide +kernel) (by decide +kernel), _, rfl, ite2 (fun z => nomatch z) fun _ => fin _ e1⟩
    · exact ⟨_, r, _, _, _, _, rfl, upd_same, pr, .base (.int _), kits2 (t := "int") (b1 := false) (b2 := false) (by decide +kernel) (by decide +kernel), _, rfl, ite2 (fun z => nomatch z) fun _ => fin _ e1⟩
    · exact ⟨_, r, _, _, _, _, rfl, upd_same, pr, .base (.str _), kits2 (t := "str") (b1 := false) (b2 := false) (by decide +kernel) (by decide +kernel), _, rfl, ite2 (fun z => nomatch z) fun _ => fin _ e1⟩
  · have lt1 := lt.ex e1
    rcases lt1 with h | h
    · refine ⟨_, r, _, _, _, _, rfl, upd_same, pr, .base (.lst h), kits2 (t := "list") (b1 := true) (b2 := false) (by decide +kernel) (by decide +kernel), _, rfl, ite2 (fun _ => ?_) fun z => absurd rfl z⟩
      exact q_right (K := K) x1 v14 (.inl h) (by omega) fun H3 e3 => fin _ (e1.trans e3)
    · refine ⟨_, r, _, _, _, _, rfl, upd_same, pr, .base (.tup h), kits2 (t := "tuple") (b1 := false) (b2 := true) (by decide +kernel) (by decide +kernel), _, rfl, ite2 (fun _ => ?_) fun z => absurd rfl z⟩
      exact q_right (K := K) x1 v14 (.inr h) (by omega) fun H3 e3 => fin _ (e1.trans e3)
theorem sm_bools (b1 b2 : Bool) : Sm 1 2 (.list [.bool b1, .bool b2]) := by
  have one : ∀ b, Sm 0 0 (.bool b) := fun b => by cases b <;> exact ⟨Nat.le_refl _, Nat.le_refl _, by decide, rfl, rfl⟩
  exact Sm.two (one b1) (one b2)
theorem ti_holds (hr : Room 9 (LX P w K mg base fa cdv s0 H0).A) (G : Mg mg) (C : Cal P w K mg base "chain_holds" ["chain", "value"] sChainHolds 9 (spHolds K T) fH dH) (W : KwOk K dH ["chain", "value"] ["value", "chain"] (perm [1, 0]) (perm [1, 0])) : Ti (LX P w K mg base fa cdv s0 H0) (forS 19) (E3' K T a ns) (B3 K T a ns) := by
  have hu : (LX P w K mg base fa cdv s0 H0).A.units + 64 < cLine := hr.units
  have hg : (LX P w K mg base fa cdv s0 H0).A.guards = some [] := rfl
  refine ⟨_, ps_if (pt_cmpR op_ne (pe_callB (cr_repr hu hg) (by rfl) G.repr boot_repr (pa_cons (pe_lst (pa_cons (pe_call C.ok hr (by rfl) C.ns.mg C.ns.fn.kp C.ns.bd .nil pass0 (pa_cons (pv 2) (pa_cons (pv 12) pa_nil)))
    (pa_cons (pe_callW C.ok hr (by rfl) C.ns.mg C.ns.fn.kp W pass0 (pk_cons (pv 14) (pk_cons (pv 2) pk_nil))) pa_nil))) pa_nil))
    (pe_callB (cr_repr hu hg) (by rfl) G.repr boot_repr (pa_cons (pe_lst (pa_cons (pv 13) (pa_cons (pv 6) pa_nil))) pa_nil)) (nomark _)) (pss_one (ps_ret pe_bl)) pss_nil, fun i D σ H hA kk => ?_⟩
  obtain ⟨c, p, e, cv, ys, q, zs, v, b, x, v12, ln, v13, v14, vb, v6⟩ := hA
  have l4 := ln.l4
  refine ⟨_, x.v2, _, v12, c, cv, .ref q, rightB c zs, rfl, x.sm.ok, x.hc.e, x.hs.tab, .inr ⟨q, zs, rfl, .inr (SqL.of ln.hq), by omega, right_hold x.sm ln.ok⟩, fun H1 e1 => ?_⟩
  have s1 := x.hs.exT e1
  have x1 := x.step s1
  have vb1 := vb.stp x.hs s1
  refine ⟨_, v14, _, x.v2, c, cv, v, b, rfl, x.sm.ok, x1.hc.e, x1.hs.tab, vb1.hold x.sm, fun H2 e2 => ?_⟩
  have s2 := x1.hs.exT e2
  have x2 := x1.step s2
  have sm := sm_bools (rightB c zs) b
  refine ⟨by show 2 ≤ sizeLine; decide, fun r hr => ?_⟩
  have e3 := Ex.new hr (o := .lst [V.bl (rightB c zs), V.bl b])
  refine ⟨_, .list [.bool (rightB c zs), .bool b], rfl, .lst (SqL.of upd_same) (.cons (.bl _) (.cons (.bl _) .nil)), rfl, sm.sh, sm.nd, sm.d60 (by decide), sm.len (by decide), ?_⟩
  refine ⟨_, v13, _, v6, by show 2 ≤ sizeLine; decide, fun r2 hr2 => ?_⟩
  have e4 := Ex.new hr2 (o := .lst [V.bl (rightB c zs), V.bl b])
  refine ⟨_, .list [.bool (rightB c zs), .bool b], rfl, .lst (SqL.of upd_same) (.cons (.bl _) (.cons (.bl _) .nil)), rfl, sm.sh, sm.nd, sm.d60 (by decide), sm.len (by decide), ?_⟩
  refine ⟨rfl, _, rfl, ite2 (fun z => absurd z (by simp)) fun _ => ?_⟩
  exact kk _ _ ⟨c, p, e, cv, ys, x2.ex (e3.trans e4)⟩
end
end K04
set_option Elab.async false
set_option linter.all false
set_option maxRecDepth 100000
set_option maxHeartbeats 4000000
namespace Pu
open PySem PySem.Spec PyProof.Rows L2 GxR Evl
def Fx (K : PySem.W.Frag) (mg : Str → Option Value) (x : Str) (ps : List Str) (st : Stmt) : Prop := ∃ f fd, K04.Fns K mg x ps st f fd
def Fk (K : PySem.W.Frag) (mg : Str → Option Value) (x : Str) (ps : List Str) (st : Stmt) (ks : List Str) (is : List Nat) : Prop := ∃ f fd, K04.Fns K mg x ps st f fd ∧ KwOk K fd ps ks (perm is) (perm is)
/-- a def of the text -/
def DefIn (K : PySem.W.Frag) (x : Str) (st : Stmt) : Prop := ∃ (f : Addr) (oc : Value) (od : Option Addr) (kV doc pm : Value) (an : Option Addr) (cd ct : Value) (sl : Array (Option Value)),
  PySem.W.nsIn K mainGlobals x = some (some (.ref f)) ∧ K.lookup f = some ⟨oc, od, .func (PySem.W.fnOf x x (defArgs st) (defBody st) (defScope st) .none kV doc pm an cd ct), sl⟩ ∧ PySem.W.codeIn K cd x = true ∧ PySem.W.keepIn K (.ref f) = true
section
variable {K : PySem.W.Frag} {h : Heap} {mg : Str → Option Value}
theorem DefIn.fx {x : Str} {ps : List Str} {st : Stmt} (X : K.In h) (G : h.Ns mainGlobals mg) (D : DefIn K x st)
    (hb : ∀ (kV doc pm : Value) (an : Option Addr) (cdv ct : Value) (us : List Value), us.length = ps.length → bindArgs (PySem.W.fnOf x x (defArgs st) (defBody st) (defScope st) .none kV doc pm an cdv ct) ⟨us, []⟩ = pure (ps.zip us)) : Fx K mg x ps st := by
  obtain ⟨f, oc, od, kV, doc, pm, an, cd, ct, sl, h1, h2, h3, h4⟩ := D
  exact ⟨f, _, fun_mk h2 h3 h4, (fun_mk h2 h3 h4).binds hb, PySem.W.mg_of X G h1⟩
theorem DefIn.fk {x : Str} {ps ks : List Str} {is : List Nat} {st : Stmt} (X : K.In h) (G : h.Ns mainGlobals mg) (D : DefIn K x st)
    (hb : ∀ (kV doc pm : Value) (an : Option Addr) (cdv ct : Value) (us : List Value), us.length = ps.length → bindArgs (PySem.W.fnOf x x (defArgs st) (defBody st) (defScope st) .none kV doc pm an cdv ct) ⟨us, []⟩ = pure (ps.zip us))
    (hk : ∀ (kV doc pm : Value) (an : Option Addr) (cdv ct : Value) (ws : List Value), ws.length = is.length → bindArgs (PySem.W.fnOf x x (defArgs st) (defBody st) (defScope st) .none kV doc pm an cdv ct) ⟨[], ks.zip ws⟩ = pure (ps.zip (perm is ws))) (hn : 0 < ps.length) : Fk K mg x ps st ks is := by
  obtain ⟨f, oc, od, kV, doc, pm, an, cd, ct, sl, h1, h2, h3, h4⟩ := D
  exact ⟨f, _, ⟨fun_mk h2 h3 h4, (fun_mk h2 h3 h4).binds hb, PySem.W.mg_of X G h1⟩, kwOk (fun ws hl => hk _ _ _ _ _ _ ws hl) hn⟩
end
theorem DefIn.mk {K : PySem.W.Frag} {x : Str} {st : Stmt} {f : Addr} {oc : Value} {od : Option Addr} {kV doc pm : Value} {an : Option Addr} {cd ct : Value} {sl : Array (Option Value)}
    (h1 : PySem.W.nsIn K mainGlobals x = some (some (.ref f))) (h2 : K.lookup f = some ⟨oc, od, .func (PySem.W.fnOf x x (defArgs st) (defBody st) (defScope st) .none kV doc pm an cd ct), sl⟩) (h3 : PySem.W.codeIn K cd x = true) (h4 : PySem.W.keepIn K (.ref f) = true) : DefIn K x st :=
  ⟨f, oc, od, kV, doc, pm, an, cd, ct, sl, h1, h2, h3, h4⟩
theorem tab_mk {K : PySem.W.Frag} {x : Str} {f c T : Addr} {oc cc : Value} {od oe : Option Addr} {fd : FuncData} {vs : Array Value} {sl sm : Array (Option Value)} (h1 : PySem.W.nsIn K mainGlobals x = some (some (.ref f))) (h2 : K.lookup f = some ⟨oc, od, .func fd, sl⟩) (hc : fd.code = .ref c)
    (h3 : K.lookup c = some ⟨cc, oe, .fields vs, sm⟩) (h4 : (vs[11]? : Option Value) = some (.ref T)) : PySem.W.tabIn K x = some (c, T) := by
  unfold PySem.W.tabIn
  rw [h1]
  show (match K.lookup f with
    | some ⟨_, _, .func fd, _⟩ => _
    | _ => none) = _
  rw [h2]
  show (match fd.code with
    | .ref c => _
    | _ => none) = _
  rw [hc]
  show (match K.lookup c with
    | some ⟨_, _, .fields vs, _⟩ => _
    | _ => none) = _
  rw [h3]
  show (match (vs[11]? : Option Value) with
    | some (.ref P) => some (c, P)
    | _ => none) = _
  rw [h4]
theorem cst_mk {K : PySem.W.Frag} {x : Str} {v : V} {u : Value} (h : PySem.W.nsIn K mainGlobals x = some (some u)) (r : RelV v u) : ∃ u, PySem.W.nsIn K mainGlobals x = some (some u) ∧ RelV v u := ⟨u, h, r⟩
end Pu
namespace K04
open PySem PySem.Spec PyProof.Rows L2 GxR Pu Evl
/-- all that the text must hold -/
structure AllF (K : PySem.W.Frag) (mg : Str → Option Value) (c : Addr) : Prop where
  g : Mg mg
  k_MOST_PAUSE : ∃ u, mg "MOST_PAUSE" = some u ∧ RelV (.int 1000) u
  k_MOST_ROWS : ∃ u, mg "MOST_ROWS" = some u ∧ RelV (.int 200) u
  b_any : mg "any" = none
  b_sorted : mg "sorted" = none
  b_zip : mg "zip" = none
  int : Fx K mg "is_integer" ["value"] sIsInteger
  num : Fx K mg "is_number" ["value"] sIsNumber
  seq : Fx K mg "is_sequence" ["value"] sIsSequence
  par : Fx K mg "is_of_parts" ["value", "many"] sIsOfParts
  nn : Fx K mg "need_number" ["value"] sNeedNumber
  st : Fx K mg "are_steps" ["gap", "pause"] sAreSteps
  non : Fx K mg "is_number_or_none" ["value"] sIsNon
  win : Fx K mg "is_window" ["value"] sIsWindow
  ch : Fx K mg "is_chain" ["value"] sIsChain
  ck : Fx K mg "check_chain" ["value"] sCheckChain
  fs : Fx K mg "first_steps" ["gap", "pause", "begin"] sFirstSteps
  wi : Fx K mg "within" ["stretch", "window"] sWithin
  fw : Fx K mg "forward" ["chain"] sForward
  so : Fx K mg "stretches_of" ["chain"] sStretchesOf
  sm : Fk K mg "stamps" ["chain"] sStamps ["chain"] [0]
  lo : Fx K mg "least_of" ["stretches"] sLeastOf
  le : Fx K mg "least_chain" ["chain"] sLeastChain
  la : Fx K mg "latest_chain" ["chain"] sLatestChain
  ho : Fk K mg "chain_holds" ["chain", "value"] sChainHolds ["value", "chain"] [1, 0]
  th : Fk K mg "chain_through" ["chain", "row", "stamp"] sChainThrough ["stamp", "row", "chain"] [2, 1, 0]
  box : Fx K mg "_law_box" ["_law_script", "_law_k"] sBox
  take : Fx K mg "_law_take" ["_law_box_here", "_law_many"] sTake
  pick : Fx K mg "_law_pick" ["_law_box_here", "_law_some"] sPick
  lc : Fx K mg "_law_chain" ["_law_box_here"] sLawChain
  al : Fx K mg "_law_all" ["_law_chain_here"] sLawAll
  ws : ∃ f fd, FunC K "are_windows" "are_windows" sAreWindows f fd c ∧ Binds K fd ["value"] [] ∧ mg "are_windows" = some (.ref f)
section
variable {P : Program} {w : World} {K : PySem.W.Frag} {mg : Str → Option Value} {T a fa c : Addr} {ns : List Int}
theorem body (F : AllF K mg c) (hn : ns.length ≤ 100) (hr9 : Room 10 callerA) : BodyOk P w K mg [(c, T)] lawN sLaw fa a ns := by
  intro base cdv s H M hTB hT hS
  have TB : TabB base mg c T := hTB (c, T) (List.mem_singleton.mpr rfl)
  have hT2 : TabG H T := ⟨#[], hT (c, T) (List.mem_singleton.mpr rfl), trivial⟩
  have hr : Room 9 (LX P w K mg base fa cdv s H).A := hr9.deeper _
  have G := F.g
  have MC : Mc mg := ⟨F.k_MOST_PAUSE, F.k_MOST_ROWS⟩
  obtain ⟨f_int, d_int, x_int⟩ := F.int
  obtain ⟨f_num, d_num, x_num⟩ := F.num
  obtain ⟨f_seq, d_seq, x_seq⟩ := F.seq
  obtain ⟨f_par, d_par, x_par⟩ := F.par
  obtain ⟨f_nn, d_nn, x_nn⟩ := F.nn
  obtain ⟨f_st, d_st, x_st⟩ := F.st
  obtain ⟨f_non, d_non, x_non⟩ := F.non
  obtain ⟨f_win, d_win, x_win⟩ := F.win
  obtain ⟨f_ch, d_ch, x_ch⟩ := F.ch
  obtain ⟨f_ck, d_ck, x_ck⟩ := F.ck
  obtain ⟨f_fs, d_fs, x_fs⟩ := F.fs
  obtain ⟨f_wi, d_wi, x_wi⟩ := F.wi
  obtain ⟨f_fw, d_fw, x_fw⟩ := F.fw
  obtain ⟨f_so, d_so, x_so⟩ := F.so
  obtain ⟨f_sm, d_sm, x_sm, w_sm⟩ := F.sm
  obtain ⟨f_lo, d_lo, x_lo⟩ := F.lo
  obtain ⟨f_le, d_le, x_le⟩ := F.le
  obtain ⟨f_la, d_la, x_la⟩ := F.la
  obtain ⟨f_ho, d_ho, x_ho, w_ho⟩ := F.ho
  obtain ⟨f_th, d_th, x_th, w_th⟩ := F.th
  obtain ⟨f_box, d_box, x_box⟩ := F.box
  obtain ⟨f_take, d_take, x_take⟩ := F.take
  obtain ⟨f_pick, d_pick, x_pick⟩ := F.pick
  obtain ⟨f_lc, d_lc, x_lc⟩ := F.lc
  obtain ⟨f_al, d_al, x_al⟩ := F.al
  obtain ⟨f_ws, d_ws, c_ws, b_ws, m_ws⟩ := F.ws
  have x_ws : Fns K mg "are_windows" ["value"] sAreWindows f_ws d_ws := ⟨c_ws.fn, b_ws, m_ws⟩
  have gNN : FnOk P w K mg base CX0 3 f_nn d_nn ["value"] (spV pNat) := ok_need_number M G x_nn.fn x_num x_int
  have gSt : FnOk P w K mg base CX0 2 f_st d_st ["gap", "pause"] (spV pSteps) := ok_are_steps M G MC x_st.fn x_int
  have gWin : PF P w K mg base 4 f_win d_win ["value"] pWindow := pf_is_window M G x_win.fn x_par.fn x_par.bd x_par.mg x_num.fn x_num.bd x_num.mg x_seq.fn x_seq.bd x_seq.mg x_int.fn x_int.bd x_int.mg x_non.fn x_non.bd x_non.mg
  have gWs : FnOk P w K mg base CX0 6 f_ws d_ws ["value"] (spWs K T) := ok_are_windows M G MC c_ws TB x_seq x_win gWin
  have gCh : FnOk P w K mg base CX0 7 f_ch d_ch ["value"] (spIsCh K T) := ok_is_chain M G x_ch.fn x_par x_st gSt x_non x_ws gWs x_seq x_num x_int
  have gCk : FnOk P w K mg base CX0 8 f_ck d_ck ["value"] (spChk K T) := ok_check G x_ck.fn x_ch gCh
  have gFw : FnOk P w K mg base CX0 2 f_fw d_fw ["chain"] spFwd := ok_forward G x_fw.fn x_fs x_wi
  have gSO : FnOk P w K mg base CX0 3 f_so d_so ["chain"] spStr := ok_stretches G F.b_any x_so.fn x_fw gFw x_wi
  have gSm : FnOk P w K mg base CX0 9 f_sm d_sm ["chain"] (spStm2 K T) := (ok_stamps G x_sm.fn x_ck gCk x_so gSO).imp fun _ _ _ _ h => stm2 h
  have gLo : FnOk P w K mg base CX0 1 f_lo d_lo ["stretches"] spLeast := ok_least_of G x_lo.fn
  have gLe : FnOk P w K mg base CX0 9 f_le d_le ["chain"] (spInts2 K T (·.1)) := (ok_least_chain x_le.fn x_ck gCk x_so gSO x_lo gLo).imp fun _ _ _ _ h => ints2 h
  have gLa : FnOk P w K mg base CX0 9 f_la d_la ["chain"] (spInts2 K T (·.2)) := (ok_latest_chain G x_la.fn x_ck gCk x_so gSO).imp fun _ _ _ _ h => ints2 h
  have gHo : FnOk P w K mg base CX0 9 f_ho d_ho ["chain", "value"] (spHolds K T) := ok_holds M G F.b_zip x_ho.fn x_ck gCk x_par x_seq x_num x_int x_fs x_wi
  have gTh : FnOk P w K mg base CX0 9 f_th d_th ["chain", "row", "stamp"] (spThrough2 K T) := (ok_through M G x_th.fn x_ck gCk x_so gSO x_lo gLo x_num x_int x_nn gNN x_wi).imp fun _ _ _ _ h => through2 h
  have gBox : FnOk P w K mg base CX0 1 f_box d_box ["_law_script", "_law_k"] (spBox K ns) := ok_box G x_box.fn
  have gTake : FnOk P w K mg base CX0 1 f_take d_take ["_law_box_here", "_law_many"] spTake := ok_take G x_take.fn
  have gPick : FnOk P w K mg base CX0 2 f_pick d_pick ["_law_box_here", "_law_some"] spPick2 := ok_pick2 G x_pick.fn x_take
  have gLC : FnOk P w K mg base CX0 3 f_lc d_lc ["_law_box_here"] spLC := ok_law_chain G x_lc.fn x_take x_pick
  have gAll : FnOk P w K mg base CX0 3 f_al d_al ["_law_chain_here"] spAll := ok_law_all G x_al.fn
  have C2 : Cal P w K mg base "_law_take" ["_law_box_here", "_law_many"] sTake 1 spTake f_take d_take := ⟨x_take, gTake⟩
  have CP : Cal P w K mg base "_law_pick" ["_law_box_here", "_law_some"] sPick 2 spPick2 f_pick d_pick := ⟨x_pick, gPick⟩
  have bd : Tis (LX P w K mg base fa cdv s H) (bodyOf (lawS 0)) (B0 K T a ns) (B3 K T a ns) :=
    Tis.cons (ti_box hr ⟨x_box, gBox⟩ hn) (Tis.cons (ti_chain hr ⟨x_lc, gLC⟩) (Tis.cons (ti_lines hr ⟨x_al, gAll⟩) (Tis.cons (ti_handed G) (Tis.cons (ti_same hr ⟨x_ck, gCk⟩) (Tis.cons (ti_columns F.b_sorted G) (Tis.cons (ti_due hr G) (Tis.cons (ti_stamps hr G ⟨x_sm, gSm⟩ w_sm)
      (Tis.cons (ti_least G) (Tis.cons (ti_latest G) (Tis.cons (ti_ends hr G ⟨x_le, gLe⟩ ⟨x_la, gLa⟩) (Tis.cons (ti_in hr) (Tis.cons (ti_stretch hr G) (Tis.cons (ti_turns hr G C2 ⟨x_th, gTh⟩ w_th) (Tis.cons (ti_line hr G CP C2) (Tis.cons (ti_bend hr G CP C2)
      (Tis.cons (ti_right hr G) (Tis.cons (ti_value hr G CP) (Tis.cons (ti_due2 hr G) (Tis.one (ti_holds hr G ⟨x_ho, gHo⟩ w_ho))))))))))))))))))))
  obtain ⟨tb, hb1, hb2⟩ := bd
  refine ⟨_, pss_cons (ps_for PassesOwn.never rfl (pi_range1 (by rfl) G.range (pa_cons (pe_callB (call_max2 rfl) (by rfl) G.max boot_max (pa_cons pe_int (pa_cons (pe_callB (call_min2 rfl) (by rfl) G.min boot_min
    (pa_cons (pe_callB call_len (by rfl) G.len boot_len (pa_cons (pv 0) pa_nil)) (pa_cons pe_int pa_nil))) pa_nil))) pa_nil)) (pg_name (i := 15) scLaw.nd rfl (.inl rfl)) hb1) (pss_one (ps_ret pe_bl)), ?_⟩
  obtain ⟨m1, hm1⟩ : ∃ m : Int, (if (12 : Int) < ((ns.map V.int).length : Int) then (12 : Int) else ((ns.map V.int).length : Int)) = m := ⟨_, rfl⟩
  obtain ⟨m, hm⟩ : ∃ m : Int, (if m1 > 5 then m1 else 5) = m := ⟨_, rfl⟩
  have hm9 : 5 ≤ m ∧ m ≤ 12 := by
    rw [← hm, ← hm1]
    split <;> split <;> omega
  refine ⟨_, rfl, .ref a, _, rfl, .inl ⟨_, hS, rfl⟩, _, 12, rfl, 5, _, rfl, m, ?_, by omega, by omega, for_range (lo := 0) (n := m.toNat) (fun i σ H => σ.length = 19 ∧ σ[0]? = some (some (.ref a)) ∧ TabG H T ∧ SqL K H a (ns.map V.int)) ⟨rfl, rfl, hT2, hS⟩ (fun i σ' H' hi p1 => ?_) fun σ' H' p1 => rfl⟩
  · rw [← hm, ← hm1]
  · obtain ⟨len, v0, tab, sq⟩ := p1
    have em : (0 : Int) + (i : Int) = ((i : Nat) : Int) := by omega
    refine hb2 i _ _ _ ⟨by rw [List.length_set]; exact len, sl_ne v0 (by decide), tab, sq, by omega, ?_⟩ fun σ'' H'' b => ?_
    · rw [em]
      exact sl_eq (by rw [len]; decide)
    · obtain ⟨c, p, e, cv, ys, x⟩ := b
      exact ⟨x.len, x.v0, x.hs.tab, x.hs.scrL⟩
end
theorem walk {l : PySem.W.OpenLaw} {q : Program} {loose : List Str} {XP : (Str → Option Value) → Heap → Prop} {YP : World → Heap → Prop} {d d2 : DefRec} {K : Params → PySem.W.Frag} (hn : l.most = some 63) (hdf : d.params.defaults = []) (hd2 : (recsOf q).find? (fun e => e.name == ("are_windows" : Str)) = some d2)
    (hY : ∀ (w : World) (h : Heap), YP w h → (K w.params).In h)
    (F : ∀ (w : World) (mg : Str → Option Value) (fa : Addr) (h : Heap), (K w.params).In h → h.Ns mainGlobals mg → mg d.name = some (.ref fa) →
      ∃ (fd : FuncData) (c T : Addr), Fun (K w.params) "law" "law" sLaw fa fd ∧ (∀ (s : Shared) (u : Value), BindsTo s fd ⟨[u], []⟩ [("_law_script", u)]) ∧ AllF (K w.params) mg c ∧ PySem.W.tabIn (K w.params) "are_windows" = some (c, T) ∧ (K w.params).lookup T = none) :
    PySem.W.WalkO q loose XP YP l.row.toRowW d [] (fun f vs => PySem.call f vs) := by
  refine Att.attach_callB hn hdf fun w s₀ s₁ mg mb fa o pm cd doc a vs ns G Y ho hd hcd hmg hobj hints hlen hbits hg => ?_
  have KX := hY w _ Y
  obtain ⟨fd, c, T, Fn, hb, A, ht, nT⟩ := F w mg fa _ KX G.T.g hmg
  obtain ⟨C, hT⟩ := PySem.W.tab_of G.T KX hd2 ht
  have one : ∀ {Q : Addr × Addr → Prop}, Q (c, T) → ∀ p ∈ [(c, T)], Q p := fun {Q} q p hp => by rw [List.mem_singleton.mp hp]; exact q
  have hr : Room 10 callerA := ⟨rfl, by decide, by decide⟩
  exact law_end (cs := [(c, T)]) KX G.T.g G.T.b G.T.builtins G.T.nolimit hg (one ⟨⟨hT, nT⟩, C⟩) G.T.bmain hobj hints (Nat.le_trans hlen (by decide)) Fn scLaw hb (hr.mono (by decide)) (body A (by omega) hr)
end K04
set_option Elab.async false
set_option linter.all false
set_option maxRecDepth 100000
set_option maxHeartbeats 4000000
namespace K04
open PySem PySem.Spec PyProof.Rows L2 GxR Pu Evl
theorem allf {K : PySem.W.Frag} {h : Heap} {mg : Str → Option Value} {c f : Addr} {od an : Option Addr} {sl : Array (Option Value)} {oc kV dc pm ct : Value} (X : K.In h) (G : h.Ns mainGlobals mg)
    (d_int : DefIn K "is_integer" sIsInteger)
    (d_num : DefIn K "is_number" sIsNumber)
    (d_seq : DefIn K "is_sequence" sIsSequence)
    (d_par : DefIn K "is_of_parts" sIsOfParts)
    (d_nn : DefIn K "need_number" sNeedNumber)
    (d_st : DefIn K "are_steps" sAreSteps)
    (d_non : DefIn K "is_number_or_none" sIsNon)
    (d_win : DefIn K "is_window" sIsWindow)
    (d_ch : DefIn K "is_chain" sIsChain)
    (d_ck : DefIn K "check_chain" sCheckChain)
    (d_fs : DefIn K "first_steps" sFirstSteps)
    (d_wi : DefIn K "within" sWithin)
    (d_fw : DefIn K "forward" sForward)
    (d_so : DefIn K "stretches_of" sStretchesOf)
    (d_sm : DefIn K "stamps" sStamps)
    (d_lo : DefIn K "least_of" sLeastOf)
    (d_le : DefIn K "least_chain" sLeastChain)
    (d_la : DefIn K "latest_chain" sLatestChain)
    (d_ho : DefIn K "chain_holds" sChainHolds)
    (d_th : DefIn K "chain_through" sChainThrough)
    (d_box : DefIn K "_law_box" sBox)
    (d_take : DefIn K "_law_take" sTake)
    (d_pick : DefIn K "_law_pick" sPick)
    (d_lc : DefIn K "_law_chain" sLawChain)
    (d_al : DefIn K "_law_all" sLawAll)
    (a_is : PySem.W.nsIn K mainGlobals "are_windows" = some (some (.ref f))) (l_is : K.lookup f = some ⟨oc, od, .func (PySem.W.fnOf "are_windows" "are_windows" (defArgs sAreWindows) (defBody sAreWindows) (defScope sAreWindows) .none kV dc pm an (.ref c) ct), sl⟩) (c_is : PySem.W.codeIn K (.ref c) "are_windows" = true) (k_is : PySem.W.keepIn K (.ref f) = true)
    (q_MOST_PAUSE : ∃ u, PySem.W.nsIn K mainGlobals "MOST_PAUSE" = some (some u) ∧ RelV (.int 1000) u)
    (q_MOST_ROWS : ∃ u, PySem.W.nsIn K mainGlobals "MOST_ROWS" = some (some u) ∧ RelV (.int 200) u)
    (z_isinstance : PySem.W.nsIn K mainGlobals "isinstance" = some none)
    (z_int : PySem.W.nsIn K mainGlobals "int" = some none)
    (z_bool : PySem.W.nsIn K mainGlobals "bool" = some none)
    (z_list : PySem.W.nsIn K mainGlobals "list" = some none)
    (z_tuple : PySem.W.nsIn K mainGlobals "tuple" = some none)
    (z_len : PySem.W.nsIn K mainGlobals "len" = some none)
    (z_range : PySem.W.nsIn K mainGlobals "range" = some none)
    (z_enumerate : PySem.W.nsIn K mainGlobals "enumerate" = some none)
    (z_reversed : PySem.W.nsIn K mainGlobals "reversed" = some none)
    (z_all : PySem.W.nsIn K mainGlobals "all" = some none)
    (z_abs : PySem.W.nsIn K mainGlobals "abs" = some none)
    (z_max : PySem.W.nsIn K mainGlobals "max" = some none)
    (z_min : PySem.W.nsIn K mainGlobals "min" = some none)
    (z_set : PySem.W.nsIn K mainGlobals "set" = some none)
    (z_repr : PySem.W.nsIn K mainGlobals "repr" = some none)
    (z_any : PySem.W.nsIn K mainGlobals "any" = some none)
    (z_sorted : PySem.W.nsIn K mainGlobals "sorted" = some none)
    (z_zip : PySem.W.nsIn K mainGlobals "zip" = some none)
    : AllF K mg c where
  g := ⟨PySem.W.mg_none_of X G z_isinstance, PySem.W.mg_none_of X G z_int, PySem.W.mg_none_of X G z_bool, PySem.W.mg_none_of X G z_list, PySem.W.mg_none_of X G z_tuple, PySem.W.mg_none_of X G z_len, PySem.W.mg_none_of X G z_range, PySem.W.mg_none_of X G z_enumerate, PySem.W.mg_none_of X G z_reversed, PySem.W.mg_none_of X G z_all, PySem.W.mg_none_of X G z_abs, PySem.W.mg_none_of X G z_max, PySem.W.mg_none_of X G z_min, PySem.W.mg_none_of X G z_set, PySem.W.mg_none_of X G z_repr⟩
  k_MOST_PAUSE := by obtain ⟨u, e, r⟩ := q_MOST_PAUSE; exact ⟨u, PySem.W.mg_of X G e, r⟩
  k_MOST_ROWS := by obtain ⟨u, e, r⟩ := q_MOST_ROWS; exact ⟨u, PySem.W.mg_of X G e, r⟩
  b_any := PySem.W.mg_none_of X G z_any
  b_sorted := PySem.W.mg_none_of X G z_sorted
  b_zip := PySem.W.mg_none_of X G z_zip
  int := d_int.fx X G (fun _ _ _ _ _ _ us hl => match us, hl with | [_], _ => rfl)
  num := d_num.fx X G (fun _ _ _ _ _ _ us hl => match us, hl with | [_], _ => rfl)
  seq := d_seq.fx X G (fun _ _ _ _ _ _ us hl => match us, hl with | [_], _ => rfl)
  par := d_par.fx X G (fun _ _ _ _ _ _ us hl => match us, hl with | [_, _], _ => rfl)
  nn := d_nn.fx X G (fun _ _ _ _ _ _ us hl => match us, hl with | [_], _ => rfl)
  st := d_st.fx X G (fun _ _ _ _ _ _ us hl => match us, hl with | [_, _], _ => rfl)
  non := d_non.fx X G (fun _ _ _ _ _ _ us hl => match us, hl with | [_], _ => rfl)
  win := d_win.fx X G (fun _ _ _ _ _ _ us hl => match us, hl with | [_], _ => rfl)
  ch := d_ch.fx X G (fun _ _ _ _ _ _ us hl => match us, hl with | [_], _ => rfl)
  ck := d_ck.fx X G (fun _ _ _ _ _ _ us hl => match us, hl with | [_], _ => rfl)
  fs := d_fs.fx X G (fun _ _ _ _ _ _ us hl => match us, hl with | [_, _, _], _ => rfl)
  wi := d_wi.fx X G (fun _ _ _ _ _ _ us hl => match us, hl with | [_, _], _ => rfl)
  fw := d_fw.fx X G (fun _ _ _ _ _ _ us hl => match us, hl with | [_], _ => rfl)
  so := d_so.fx X G (fun _ _ _ _ _ _ us hl => match us, hl with | [_], _ => rfl)
  sm := d_sm.fk X G (fun _ _ _ _ _ _ us hl => match us, hl with | [_], _ => rfl) (fun _ _ _ _ _ _ us hl => match us, hl with | [_], _ => rfl) (by decide)
  lo := d_lo.fx X G (fun _ _ _ _ _ _ us hl => match us, hl with | [_], _ => rfl)
  le := d_le.fx X G (fun _ _ _ _ _ _ us hl => match us, hl with | [_], _ => rfl)
  la := d_la.fx X G (fun _ _ _ _ _ _ us hl => match us, hl with | [_], _ => rfl)
  ho := d_ho.fk X G (fun _ _ _ _ _ _ us hl => match us, hl with | [_, _], _ => rfl) (fun _ _ _ _ _ _ us hl => match us, hl with | [_, _], _ => rfl) (by decide)
  th := d_th.fk X G (fun _ _ _ _ _ _ us hl => match us, hl with | [_, _, _], _ => rfl) (fun _ _ _ _ _ _ us hl => match us, hl with | [_, _, _], _ => rfl) (by decide)
  box := d_box.fx X G (fun _ _ _ _ _ _ us hl => match us, hl with | [_, _], _ => rfl)
  take := d_take.fx X G (fun _ _ _ _ _ _ us hl => match us, hl with | [_, _], _ => rfl)
  pick := d_pick.fx X G (fun _ _ _ _ _ _ us hl => match us, hl with | [_, _], _ => rfl)
  lc := d_lc.fx X G (fun _ _ _ _ _ _ us hl => match us, hl with | [_], _ => rfl)
  al := d_al.fx X G (fun _ _ _ _ _ _ us hl => match us, hl with | [_], _ => rfl)
  ws := ⟨f, _, ⟨⟨oc, od, kV, dc, pm, an, ct, sl, rfl, l_is, c_is⟩, k_is⟩, (fun_mk (st := sAreWindows) l_is c_is k_is).binds (fun _ _ _ _ _ _ us hl => match us, hl with | [_], _ => rfl), PySem.W.mg_of X G a_is⟩
theorem fin {K : PySem.W.Frag} {h : Heap} {mg : Str → Option Value} {fa c T f f4 : Addr} {od an od4 an4 : Option Addr} {sl sl4 : Array (Option Value)} {cc : Value} {oe : Option Addr} {vs : Array Value} {sm : Array (Option Value)} {oc kV dc pm ct oc4 kV4 dc4 pm4 cd4 ct4 : Value} (X : K.In h) (G : h.Ns mainGlobals mg) (hfa : mg "law" = some (.ref fa))
    (a4 : PySem.W.nsIn K mainGlobals "law" = some (some (.ref f4))) (l4 : K.lookup f4 = some ⟨oc4, od4, .func (PySem.W.fnOf "law" "law" (defArgs sLaw) (defBody sLaw) (defScope sLaw) .none kV4 dc4 pm4 an4 cd4 ct4), sl4⟩) (c4 : PySem.W.codeIn K cd4 "law" = true) (k4 : PySem.W.keepIn K (.ref f4) = true)
    (d_int : DefIn K "is_integer" sIsInteger)
    (d_num : DefIn K "is_number" sIsNumber)
    (d_seq : DefIn K "is_sequence" sIsSequence)
    (d_par : DefIn K "is_of_parts" sIsOfParts)
    (d_nn : DefIn K "need_number" sNeedNumber)
    (d_st : DefIn K "are_steps" sAreSteps)
    (d_non : DefIn K "is_number_or_none" sIsNon)
    (d_win : DefIn K "is_window" sIsWindow)
    (d_ch : DefIn K "is_chain" sIsChain)
    (d_ck : DefIn K "check_chain" sCheckChain)
    (d_fs : DefIn K "first_steps" sFirstSteps)
    (d_wi : DefIn K "within" sWithin)
    (d_fw : DefIn K "forward" sForward)
    (d_so : DefIn K "stretches_of" sStretchesOf)
    (d_sm : DefIn K "stamps" sStamps)
    (d_lo : DefIn K "least_of" sLeastOf)
    (d_le : DefIn K "least_chain" sLeastChain)
    (d_la : DefIn K "latest_chain" sLatestChain)
    (d_ho : DefIn K "chain_holds" sChainHolds)
    (d_th : DefIn K "chain_through" sChainThrough)
    (d_box : DefIn K "_law_box" sBox)
    (d_take : DefIn K "_law_take" sTake)
    (d_pick : DefIn K "_law_pick" sPick)
    (d_lc : DefIn K "_law_chain" sLawChain)
    (d_al : DefIn K "_law_all" sLawAll)
    (a_is : PySem.W.nsIn K mainGlobals "are_windows" = some (some (.ref f))) (l_is : K.lookup f = some ⟨oc, od, .func (PySem.W.fnOf "are_windows" "are_windows" (defArgs sAreWindows) (defBody sAreWindows) (defScope sAreWindows) .none kV dc pm an (.ref c) ct), sl⟩) (c_is : PySem.W.codeIn K (.ref c) "are_windows" = true) (k_is : PySem.W.keepIn K (.ref f) = true)
    (l_cd : K.lookup c = some ⟨cc, oe, .fields vs, sm⟩) (h_T : (vs[11]? : Option Value) = some (.ref T)) (nT : K.lookup T = none)
    (q_MOST_PAUSE : ∃ u, PySem.W.nsIn K mainGlobals "MOST_PAUSE" = some (some u) ∧ RelV (.int 1000) u)
    (q_MOST_ROWS : ∃ u, PySem.W.nsIn K mainGlobals "MOST_ROWS" = some (some u) ∧ RelV (.int 200) u)
    (z_isinstance : PySem.W.nsIn K mainGlobals "isinstance" = some none)
    (z_int : PySem.W.nsIn K mainGlobals "int" = some none)
    (z_bool : PySem.W.nsIn K mainGlobals "bool" = some none)
    (z_list : PySem.W.nsIn K mainGlobals "list" = some none)
    (z_tuple : PySem.W.nsIn K mainGlobals "tuple" = some none)
    (z_len : PySem.W.nsIn K mainGlobals "len" = some none)
    (z_range : PySem.W.nsIn K mainGlobals "range" = some none)
    (z_enumerate : PySem.W.nsIn K mainGlobals "enumerate" = some none)
    (z_reversed : PySem.W.nsIn K mainGlobals "reversed" = some none)
    (z_all : PySem.W.nsIn K mainGlobals "all" = some none)
    (z_abs : PySem.W.nsIn K mainGlobals "abs" = some none)
    (z_max : PySem.W.nsIn K mainGlobals "max" = some none)
    (z_min : PySem.W.nsIn K mainGlobals "min" = some none)
    (z_set : PySem.W.nsIn K mainGlobals "set" = some none)
    (z_repr : PySem.W.nsIn K mainGlobals "repr" = some none)
    (z_any : PySem.W.nsIn K mainGlobals "any" = some none)
    (z_sorted : PySem.W.nsIn K mainGlobals "sorted" = some none)
    (z_zip : PySem.W.nsIn K mainGlobals "zip" = some none)
    : ∃ (fd : FuncData) (c T : Addr), Fun K "law" "law" sLaw fa fd ∧ (∀ (s : Shared) (u : Value), BindsTo s fd ⟨[u], []⟩ [("_law_script", u)]) ∧ AllF K mg c ∧ PySem.W.tabIn K "are_windows" = some (c, T) ∧ K.lookup T = none := by
  have e := hfa.symm.trans (PySem.W.mg_of X G a4)
  cases e
  exact ⟨_, c, T, fun_mk (st := sLaw) l4 c4 k4, fun s v => .of_eq rfl, allf X G d_int d_num d_seq d_par d_nn d_st d_non d_win d_ch d_ck d_fs d_wi d_fw d_so d_sm d_lo d_le d_la d_ho d_th d_box d_take d_pick d_lc d_al a_is l_is c_is k_is q_MOST_PAUSE q_MOST_ROWS z_isinstance z_int z_bool z_list z_tuple z_len z_range z_enumerate z_reversed z_all z_abs z_max z_min z_set z_repr z_any z_sorted z_zip, tab_mk a_is l_is rfl l_cd h_T, nT⟩
end K04
open PySem PySem.W PyProof.Rows in
set_option maxRecDepth 100000 in
set_option maxHeartbeats 0 in
theorem PySem.Challenge.cw_farstory_k04_whole_all_stamps_of_chains_holds : PySem.Challenge.rw_farstory_k04_whole_all_stamps_of_chains.Holds := by
  w_on; o_law; k_head; (case hw => w_witness2)
  k_fill
  refine K04.walk (l := PySem.Challenge.rw_farstory_k04_whole_all_stamps_of_chains) rfl rfl rfl (fun w h Y => PySem.W.kIn_of Y) ?F
  case F =>
    intro w mg fa h KX G hmg
    refine' K04.fin KX G hmg ?a4 ?l4 ?c4 ?k4 ?d_int ?d_num ?d_seq ?d_par ?d_nn ?d_st ?d_non ?d_win ?d_ch ?d_ck ?d_fs ?d_wi ?d_fw ?d_so ?d_sm ?d_lo ?d_le ?d_la ?d_ho ?d_th ?d_box ?d_take ?d_pick ?d_lc ?d_al ?a_is ?l_is ?c_is ?ki ?l_cd ?h_T ?nT ?q_MOST_PAUSE ?q_MOST_ROWS ?z_isinstance ?z_int ?z_bool ?z_list ?z_tuple ?z_len ?z_range ?z_enumerate ?z_reversed ?z_all ?z_abs ?z_max ?z_min ?z_set ?z_repr ?z_any ?z_sorted ?z_zip
    (case a4 => k_is)
    (case l4 => k_is)
    (case c4 => k_is)
    (case k4 => k_is)
    (case d_int => refine' Pu.DefIn.mk ?a ?l ?c ?k; (case a => k_is); (case l => k_is); (case c => k_is); (case k => k_is))
    (case d_num => refine' Pu.DefIn.mk ?a ?l ?c ?k; (case a => k_is); (case l => k_is); (case c => k_is); (case k => k_is))
    (case d_seq => refine' Pu.DefIn.mk ?a ?l ?c ?k; (case a => k_is); (case l => k_is); (case c => k_is); (case k => k_is))
    (case d_par => refine' Pu.DefIn.mk ?a ?l ?c ?k; (case a => k_is); (case l => k_is); (case c => k_is); (case k => k_is))
    (case d_nn => refine' Pu.DefIn.mk ?a ?l ?c ?k; (case a => k_is); (case l => k_is); (case c => k_is); (case k => k_is))
    (case d_st => refine' Pu.DefIn.mk ?a ?l ?c ?k; (case a => k_is); (case l => k_is); (case c => k_is); (case k => k_is))
    (case d_non => refine' Pu.DefIn.mk ?a ?l ?c ?k; (case a => k_is); (case l => k_is); (case c => k_is); (case k => k_is))
    (case d_win => refine' Pu.DefIn.mk ?a ?l ?c ?k; (case a => k_is); (case l => k_is); (case c => k_is); (case k => k_is))
    (case d_ch => refine' Pu.DefIn.mk ?a ?l ?c ?k; (case a => k_is); (case l => k_is); (case c => k_is); (case k => k_is))
    (case d_ck => refine' Pu.DefIn.mk ?a ?l ?c ?k; (case a => k_is); (case l => k_is); (case c => k_is); (case k => k_is))
    (case d_fs => refine' Pu.DefIn.mk ?a ?l ?c ?k; (case a => k_is); (case l => k_is); (case c => k_is); (case k => k_is))
    (case d_wi => refine' Pu.DefIn.mk ?a ?l ?c ?k; (case a => k_is); (case l => k_is); (case c => k_is); (case k => k_is))
    (case d_fw => refine' Pu.DefIn.mk ?a ?l ?c ?k; (case a => k_is); (case l => k_is); (case c => k_is); (case k => k_is))
    (case d_so => refine' Pu.DefIn.mk ?a ?l ?c ?k; (case a => k_is); (case l => k_is); (case c => k_is); (case k => k_is))
    (case d_sm => refine' Pu.DefIn.mk ?a ?l ?c ?k; (case a => k_is); (case l => k_is); (case c => k_is); (case k => k_is))
    (case d_lo => refine' Pu.DefIn.mk ?a ?l ?c ?k; (case a => k_is); (case l => k_is); (case c => k_is); (case k => k_is))
    (case d_le => refine' Pu.DefIn.mk ?a ?l ?c ?k; (case a => k_is); (case l => k_is); (case c => k_is); (case k => k_is))
    (case d_la => refine' Pu.DefIn.mk ?a ?l ?c ?k; (case a => k_is); (case l => k_is); (case c => k_is); (case k => k_is))
    (case d_ho => refine' Pu.DefIn.mk ?a ?l ?c ?k; (case a => k_is); (case l => k_is); (case c => k_is); (case k => k_is))
    (case d_th => refine' Pu.DefIn.mk ?a ?l ?c ?k; (case a => k_is); (case l => k_is); (case c => k_is); (case k => k_is))
    (case d_box => refine' Pu.DefIn.mk ?a ?l ?c ?k; (case a => k_is); (case l => k_is); (case c => k_is); (case k => k_is))
    (case d_take => refine' Pu.DefIn.mk ?a ?l ?c ?k; (case a => k_is); (case l => k_is); (case c => k_is); (case k => k_is))
    (case d_pick => refine' Pu.DefIn.mk ?a ?l ?c ?k; (case a => k_is); (case l => k_is); (case c => k_is); (case k => k_is))
    (case d_lc => refine' Pu.DefIn.mk ?a ?l ?c ?k; (case a => k_is); (case l => k_is); (case c => k_is); (case k => k_is))
    (case d_al => refine' Pu.DefIn.mk ?a ?l ?c ?k; (case a => k_is); (case l => k_is); (case c => k_is); (case k => k_is))
    (case a_is => k_is)
    (case l_is => k_is)
    (case c_is => k_is)
    (case ki => k_is)
    (case l_cd => k_is)
    (case h_T => exact rfl)
    (case nT => kernel_rfl)
    (case q_MOST_PAUSE => refine' Pu.cst_mk ?e ?r; (case e => k_is); (case r => exact ⟨_, rfl⟩))
    (case q_MOST_ROWS => refine' Pu.cst_mk ?e ?r; (case e => k_is); (case r => exact ⟨_, rfl⟩))
    (case z_isinstance => k_is)
    (case z_int => k_is)
    (case z_bool => k_is)
    (case z_list => k_is)
    (case z_tuple => k_is)
    (case z_len => k_is)
    (case z_range => k_is)
    (case z_enumerate => k_is)
    (case z_reversed => k_is)
    (case z_all => k_is)
    (case z_abs => k_is)
    (case z_max => k_is)
    (case z_min => k_is)
    (case z_set => k_is)
    (case z_repr => k_is)
    (case z_any => k_is)
    (case z_sorted => k_is)
    (case z_zip => k_is)
