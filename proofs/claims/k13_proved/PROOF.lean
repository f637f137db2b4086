import PyProof.Rows.All
import Wide.All
import OpenK.AllK
import Wide.FinOn
import HandS.ForMost
import HandS.IsInst
import HandS.AnyAll
import HandS.Evl
import PyProof.GenCompD
import PyProof.WalksMore
import HandS.EndTab
import PyProof.Rows.NestShow
import PyProof.ReprLen
import PyProof.ReprBulk
import KE.GoesMore
import HandS.Zip
import HandS.TryOnly
import HandS.Strs
import HandS.Wide
import HandS.Walk
import HandS.TupLe
import PyProof.SumWalkG
import PyProof.Rows.Chain
import HandS.SetFor
import HandS.Conv
import HandS.Deep
import HandS.ExcInit
import HandS.ExcField
import HandS.Lambda
import HandS.CallLocal
import PyProof.CallFns
import HandS.ExcIs
import HandS.WordsExc
import KE.KExcIs
import HandS.TupAny
import KE.DataEq
import KE.KTupSum
import HandS.Style
import HandS.SortInts
import PySem.Challenge.RW_farstory_k13_stores_that_are_none
set_option Elab.async false
set_option linter.all false
set_option maxRecDepth 100000
set_option maxHeartbeats 4000000
/-! Pure expressions and pure defs, whatever runs around them; all(f(x) for x in e). -/
namespace Pu
open PySem PySem.Spec PyProof.Rows L2

/-- what stands in g stands in h -/
abbrev Ext (g h : Heap) : Prop := ∀ b o, g.get? b = some o → h.get? b = some o
/-- from any heap over g the expression is worth v, and what stood stays -/
def EV (P : Program) (w : World) (A : Around) (env : Env) (g : Heap) (e : Expr) (v : V) : Prop :=
  ∀ (s : Shared) (Q : Value → Shared → Prop) (E : Value → Shared → Prop), Ext g s.heap →
    (∀ u h' tk, RelV v u → Ext s.heap h' → Q u { s with heap := h', toks := tk }) → wpAny (model P w) A (eval e env) Q E s
/-- arguments -/
def EA (P : Program) (w : World) (A : Around) (env : Env) (g : Heap) (es : List Expr) (vs : List V) : Prop :=
  ∀ (pos : Pos) (s : Shared) (Q : List Value → Shared → Prop) (E : Value → Shared → Prop), Ext g s.heap →
    (∀ us h' tk, Vals vs us → Ext s.heap h' → Q us { s with heap := h', toks := tk }) → wpAny (model P w) A (spliced (backTo pos (starEach es env))) Q E s
/-- a pure def: called with vs at a heap over g it gives v -/
structure PF (P : Program) (w : World) (K : PySem.W.Frag) (mg : Str → Option Value) (base : Heap) (k : Nat) (f : Addr) (fd : FuncData) (ps : List Str) (sp : List V → Heap → V → Prop) : Prop where
  run : ∀ (A : Around) (s : Shared) (args : Args) (us : List Value) (vs : List V) (v : V) (R : Result → Shared → Prop), Room k A → Ext base s.heap → BindsTo s fd args (ps.zip us) → Vals vs us → vs.length = ps.length → sp vs s.heap v →
    (∀ u h' tk, RelV v u → Ext s.heap h' → R (.ok (.ret u)) { s with heap := h', toks := tk }) → codeAny (model P w) A (.call (.ref f) args) R s

/-- the frame of a pure body -/
structure FrP (K : PySem.W.Frag) (mg : Str → Option Value) (base : Heap) (A : Around) (env : Env) (g : Heap) : Prop where
  mod : L2.Mod K mg base
  ext : Ext base g
  kind : env.scope.kind = .function
  glob : env.globals = mainGlobals
  blt : env.builtins = builtinsNs
  hd : A.handled = none

section
variable {P : Program} {w : World} {K : PySem.W.Frag} {mg : Str → Option Value} {base : Heap} {A : Around} {env : Env} {g : Heap}
theorem ev_loc {x : Str} {pos : Pos} {m : Str → Option Value} {u : Value} {v : V} (F : FrP K mg base A env g) (hl : env.kindOf x = some .local) (hn : g.Ns env.locals m) (hm : m x = some u) (r : RelV v u)
    (hd : (x == ("__debug__" : Str)) = false := by decide) : EV P w A env g (.Name x pos) v := fun s Q E hx hQ =>
  wpAny_Name (wpAny_loadName_local F.kind hl (hn.keeps hx) hm (hQ u s.heap s.toks r fun _ _ e => e)) hd
theorem ev_int {i : Int} {k : Nat} {pos : Pos} : EV P w A env g (.Constant (.int i) k pos) (.int i) := fun s Q E hx hQ =>
  wpAny_Constant_int (hQ _ s.heap (s.toks + 1) ⟨_, rfl⟩ fun _ _ e => e)
theorem ev_blt {x : Str} {pos : Pos} {u : Value} {v : V} (F : FrP K mg base A env g) (hg : env.kindOf x = some .globalImplicit) (hm : mg x = none) (hv : bootBuiltins x = some u) (r : RelV v u) (hn : x ≠ "__name__" := by decide)
    (hd : (x == ("__debug__" : Str)) = false := by decide) : EV P w A env g (.Name x pos) v := fun s Q E hx hQ => by
  obtain ⟨mb, h1, h2⟩ := F.mod.blt
  have hb : Ext base s.heap := fun b o e => hx b o (F.ext b o e)
  exact Calls.Name_function_global F.kind hg (Calls.loadGlobal_builtin (by rw [F.glob]; exact F.mod.glob.keeps hb) hm (by rw [F.blt]; exact h1.keeps hb) ((h2 x hn).trans hv) (hQ u s.heap s.toks r fun _ _ e => e)) hd
theorem ev_and {a b : Expr} {rest : List Expr} {pos : Pos} {x y : Bool} (ha : EV P w A env g a (.bl x)) (hb : x = true → EV P w A env g (.BoolOp .And (b :: rest) pos) (.bl y)) :
    EV P w A env g (.BoolOp .And (a :: b :: rest) pos) (.bl (x && y)) := fun s Q E hx hQ => by
  refine BoolOp_and (ha s _ E hx fun u h' tk r hk => ?_)
  cases (show u = Value.bool x from r)
  refine wpAny_truthy_bool ?_
  cases x with
  | false => exact hQ _ h' tk rfl hk
  | true => exact hb rfl { s with heap := h', toks := tk } Q E (fun b o e => hk b o (hx b o e)) fun u h2 t2 r2 k2 => hQ u h2 t2 r2 fun b o e => k2 b o (hk b o e)
theorem ev_one {op : BoolOp} {a : Expr} {pos : Pos} {v : V} (h : EV P w A env g a v) : EV P w A env g (.BoolOp op [a] pos) v := fun s Q E hx hQ => BoolOp_one (h s Q E hx hQ)
theorem ev_not {a : Expr} {pos : Pos} {x : Bool} (ha : EV P w A env g a (.bl x)) : EV P w A env g (.UnaryOp .Not a pos) (.bl (!x)) := fun s Q E hx hQ => by
  refine UnaryOp_ (ha s _ E hx fun u h' tk r hk => ?_)
  cases (show u = Value.bool x from r)
  exact not_of (wpAny_truthy_bool (hQ _ h' tk rfl hk))
theorem ev_ge {a b : Expr} {pos : Pos} {i j : Int} (ha : EV P w A env g a (.int i)) (hb : EV P w A env g b (.int j)) (hm : behindInMarks .GtE b = false := by first | exact nobehind _ (by decide) (by decide) | rfl) :
    EV P w A env g (.Compare a [.GtE] [b] pos) (.bl (decide (i ≥ j))) := fun s Q E hx hQ => by
  refine wpAny_Compare1 (ha s _ E hx fun u h' tk r hk => ?_) hm
  refine hb { s with heap := h', toks := tk } _ E (fun b o e => hk b o (hx b o e)) fun u2 h2 t2 r2 k2 => ?_
  obtain ⟨t, rfl⟩ := r
  obtain ⟨t', rfl⟩ := r2
  exact ge_int (hQ _ h2 t2 rfl fun b o e => k2 b o (hk b o e))
theorem ev_eqI {a b : Expr} {pos : Pos} {i j : Int} (ha : EV P w A env g a (.int i)) (hb : EV P w A env g b (.int j)) (hm : behindInMarks .Eq b = false := by first | exact nobehind _ (by decide) (by decide) | rfl) :
    EV P w A env g (.Compare a [.Eq] [b] pos) (.bl (decide (i = j))) := fun s Q E hx hQ => by
  refine wpAny_Compare1 (ha s _ E hx fun u h' tk r hk => ?_) hm
  refine hb { s with heap := h', toks := tk } _ E (fun b o e => hk b o (hx b o e)) fun u2 h2 t2 r2 k2 => ?_
  obtain ⟨t, rfl⟩ := r
  obtain ⟨t', rfl⟩ := r2
  exact eq_int (by rw [Bool.beq_eq_decide_eq]; exact hQ _ h2 t2 rfl fun b o e => k2 b o (hk b o e))
theorem ea_nil : EA P w A env g [] [] := fun pos s Q E hx hQ => Calls.spliced_nil (hQ [] s.heap s.toks .nil fun _ _ e => e)
theorem ea_cons {e : Expr} {es : List Expr} {v : V} {vs : List V} (ha : EV P w A env g e v) (hr : EA P w A env g es vs) (hs : starEach (e :: es) env = (false, eval e env) :: starEach es env := by rfl) : EA P w A env g (e :: es) (v :: vs) := fun pos s Q E hx hQ => by
  rw [hs]
  show wpAny _ _ (spliced ((false, eval e env) :: backTo pos (starEach es env))) _ _ s
  refine Calls.spliced_cons (ha s _ E hx fun u h' tk r hk => ?_)
  exact hr pos { s with heap := h', toks := tk } _ E (fun b o e => hk b o (hx b o e)) fun us h2 t2 r2 k2 => hQ (u :: us) h2 t2 (.cons r r2) fun b o e => k2 b o (hk b o e)
/-- a built-in by its name -/
theorem ev_bltcall {id : String} {x : Str} {p pos : Pos} {e : Expr} {es : List Expr} {vs : List V} {z : V} (F : FrP K mg base A env g) (hg : env.kindOf x = some .globalImplicit) (hm : mg x = none) (hv : bootBuiltins x = some (.builtin id))
    (ha : EA P w A env g (e :: es) vs)
    (hc : ∀ (s : Shared) (us : List Value) (Q : Value → Shared → Prop) (E : Value → Shared → Prop), Ext g s.heap → Vals vs us → (∀ u h' tk, RelV z u → Ext s.heap h' → Q u { s with heap := h', toks := tk }) → wpAny (model P w) A (call (.builtin id) us) Q E s)
    (hn : x ≠ "__name__" := by decide) (hd : (x == ("__debug__" : Str)) = false := by decide)
    (he : starEach (e :: es) env = (false, eval e env) :: starEach es env := by rfl) (hpl : (backTo pos (starEach es env)).any (·.1) = false := by rfl) : EV P w A env g (.Call (.Name x p) (e :: es) [] pos) z := fun s Q E hx hQ => by
  obtain ⟨mb, h1, h2⟩ := F.mod.blt
  have hb : Ext base s.heap := fun b o e => hx b o (F.ext b o e)
  refine wpAny_Call_Name_kw (Calls.Name_function_global F.kind hg (Calls.loadGlobal_builtin (by rw [F.glob]; exact F.mod.glob.keeps hb) hm (by rw [F.blt]; exact h1.keeps hb) ((h2 x hn).trans hv) ?_) hd)
  refine PyProof.Rows.callWith_builtin1 (ha pos s _ E hx fun us h' tk r hk => ?_) he hpl
  exact hc { s with heap := h', toks := tk } us Q E (fun b o e => hk b o (hx b o e)) r fun u h2 t2 r2 k2 => hQ u h2 t2 r2 fun b o e => k2 b o (hk b o e)
/-- a pure def by its name -/
theorem ev_pf {k : Nat} {f : Addr} {fd : FuncData} {ps : List Str} {sp : List V → Heap → V → Prop} {x : Str} {p pos : Pos} {e : Expr} {es : List Expr} {vs : List V} {z : V} (F : FrP K mg base A env g) (G : PF P w K mg base k f fd ps sp) (hr : Room k A)
    (hg : env.kindOf x = some .globalImplicit) (hm : mg x = some (.ref f)) (hk : PySem.W.keepIn K (.ref f) = true) (hb : Binds K fd ps []) (ha : EA P w A env g (e :: es) vs) (hl : vs.length = ps.length)
    (hsp : ∀ h, Ext g h → sp vs h z) (hd : (x == ("__debug__" : Str)) = false := by decide)
    (he : starEach (e :: es) env = (false, eval e env) :: starEach es env := by rfl) (hpl : (backTo pos (starEach es env)).any (·.1) = false := by rfl) : EV P w A env g (.Call (.Name x p) (e :: es) [] pos) z := fun s Q E hx hQ => by
  have hbs : Ext base s.heap := fun b o e => hx b o (F.ext b o e)
  refine wpAny_Call_Name_kw (Calls.Name_function_global F.kind hg (Calls.loadGlobal_global (by rw [F.glob]; exact F.mod.glob.keeps hbs) hm ?_) hd)
  refine PySem.W.callWith_K (h₀ := base) F.mod.kin hk (ha pos s _ E hx fun us h' tk r hk2 => ?_) he hpl
  have hx2 : Ext g h' := fun b o e => hk2 b o (hx b o e)
  have hb2 : Ext base h' := fun b o e => hx2 b o (F.ext b o e)
  refine ⟨F.mod.kin.keeps hb2, ?_⟩
  show wpAny _ _ (call (.ref f) us) _ _ _
  have hlu : (us ++ []).length = ps.length := by rw [List.append_nil, ← r.length]; exact hl
  have hbind := hb { s with heap := h', toks := tk } us (F.mod.kin.keeps hb2) hlu
  rw [List.append_nil] at hbind
  refine wpAny_call (codeAny_mono (G.run A { s with heap := h', toks := tk } ⟨us, []⟩ us vs z (fun r s' => ∃ u h2 t2, r = .ok (.ret u) ∧ RelV z u ∧ Ext h' h2 ∧ s' = { s with heap := h2, toks := t2 }) hr hb2 hbind r hl (hsp h' hx2) fun u h2 t2 r2 k2 => ⟨u, h2, t2, rfl, r2, k2, rfl⟩) fun r s' hq => ?_)
  obtain ⟨u, h2, t2, rfl, r2, k2, rfl⟩ := hq
  exact hQ u h2 t2 r2 fun b o e => k2 b o (hk2 b o e)
/-- a pure def of the text: its body is one return -/
theorem pf_ret {x qual : Str} {st : Stmt} {f : Addr} {fd : FuncData} {N ps : List Str} {k : Nat} {sp : List V → Heap → V → Prop} {e : Expr} {pos : Pos} (M : L2.Mod K mg base) (Fn : Fun K x qual st f fd) (S : FnScope N ps (defScope st)) (hst : defBody st = [.Return (some e) pos])
    (hloc : ∀ y ∈ ps, (defScope st).names.lookup y = some .local)
    (hbody : ∀ (cdv : Value) (A : Around) (L : Addr) (g : Heap) (us : List Value) (vs : List V) (v : V), Room k A → Ext base g → Vals vs us → vs.length = ps.length → sp vs g v →
      (∀ (i : Nat) (y : Str) (u : Value), ps[i]? = some y → us[i]? = some u → ∃ m, g.Ns (envOfC qual (defScope st) L f cdv).locals m ∧ m y = some u) → EV P w A (envOfC qual (defScope st) L f cdv) g e v)
    (hmono : ∀ vs g h v, Ext g h → sp vs g v → sp vs h v) : PF P w K mg base (k + 1) f fd ps sp := by
  obtain ⟨oc, od, kV, doc, pm, an, cdv, ct, osl, rfl, lk, hcd⟩ := Fn.ex
  refine ⟨fun A s args us vs v R hr hbs hb r hl hsp hR => ?_⟩
  have KX : K.In s.heap := M.kin.keeps hbs
  have lim : s.heap.NoLimit := M.nolimit.keeps hbs
  have ndP : ps.Nodup := by rw [← S.pre]; exact S.nd.sublist (List.take_sublist _ _)
  refine codeAny_call_function hr.depth (KX _ _ lk) rfl S.co S.gen rfl (PySem.W.codeRec_of KX hcd) (hb _ _ _ _ ?_)
  refine wpAny_newFunctionEnv_cells S.kind (fun ⟨n, z⟩ hy => .inl (hloc n (List.of_mem_zip hy).1)) fun env he s1 X => ?_
  subst he
  obtain ⟨h1, tk, e1, hk1⟩ := X.done
  refine ⟨lim.keeps X.toInCall.keep, codeAny_func ?_⟩
  rw [hst]
  refine wpAny_execs_cons (wpAny_Return_some ?_)
  have hns := X.toInCall.ns
  subst e1
  refine hbody cdv _ s.heap.objs.size h1 us vs v (hr.deeper _) (fun b o e => hk1 b o (hbs b o e)) r hl (hmono _ _ _ _ hk1 hsp) (fun i y u h2 h3 => ⟨_, hns, bindL_get ndP h2 h3 (hloc y (List.mem_of_getElem? h2))⟩) _ _ _ (fun _ _ e => e) fun u h' t' rv k' => ?_
  exact hR u h' t' rv fun b o e => k' b o (hk1 b o e)
end
end Pu
set_option Elab.async false
set_option linter.all false
set_option maxRecDepth 100000
set_option maxHeartbeats 4000000
/-! all(f(x) for x in e), e a tuple or a list, f(x) pure. -/
namespace Pu
open PySem PySem.Spec PyProof.Rows L2 GxR

section
variable {X : Cx} {pins : List (Addr × Obj)} {σ : L2.St} {H : Hp} {s : Shared}
/-- the walk of a tuple or a list, its iterator just made -/
theorem iter_any {A : Around} {a : Addr} {xs : List V} {Q : Value → Shared → Prop} {E : Value → Shared → Prop} (I : Inv X pins σ H s) (hq : SqT X.K H a xs ∨ SqL X.K H a xs)
    (hQ : ∀ (o : Obj) (its : List Value) (St : Nat → Heap → Prop), Vals xs its → a < s.heap.objs.size →
      (∀ B : Around, B.handled = none → Walks X.prog X.w B s.heap.objs.size [s.heap.objs.size, a] [s.heap.objs.size] its.toArray.size (fun i v => its.toArray[i]? = some v) St) →
      St 0 (s.heap.push o) → Q (.ref s.heap.objs.size) { s with heap := s.heap.push o }) : wpAny (model X.prog X.w) A (pyIter (.ref a)) Q E s := by
  rcases hq with hq | hq
  · obtain ⟨its, rv, p, hz⟩ := I.tuple hq
    have lt : a < s.heap.objs.size := p.lt
    have hne : a ≠ s.heap.objs.size := Nat.ne_of_lt lt
    refine wpAny_pyIter_tuple (show s.heap.IsTuple a its.toArray from p) ?_
    refine hQ _ its _ rv lt (fun B hB => Walks.tuple hB s.heap.objs.size a hne its.toArray) ⟨⟨_, Heap.get?_push_size _ rfl, rfl, rfl⟩, ?_⟩
    obtain ⟨o, ho, r⟩ := p
    exact ⟨o, Heap.get?_push_of_some _ ho, r⟩
  · obtain ⟨its, rv, p, hz⟩ := I.list hq
    obtain ⟨o1, n1, ho1, _⟩ := id p
    have lt : a < s.heap.objs.size := Heap.lt_size ho1
    have hne : a ≠ s.heap.objs.size := Nat.ne_of_lt lt
    refine wpAny_pyIter_list p.isList ?_
    refine hQ _ its _ rv lt (fun B hB => Walks.list hB s.heap.objs.size a hne its.toArray) ⟨⟨_, Heap.get?_push_size _ rfl, rfl, rfl⟩, ?_⟩
    exact (p.keeps fun b o e => Heap.get?_push_of_some _ e).isList

/-- the element's worth, item by item, from any frame of the generator -/
def Elt (X : Cx) (T : Addr) (sc : Scope) (x : Str) (elt : Expr) (k : Nat) (H1 : Hp) (xs : List V) (pb : Nat → Bool) : Prop :=
  ∀ (B : Around) (cenv : Env) (g : Heap) (i : Nat) (v : V) (u : Value), Room k B → cenv.scope = sc → cenv.globals = mainGlobals → cenv.builtins = builtinsNs → Ext X.base g →
    (∃ m, g.Ns cenv.locals m ∧ m x = some u) → xs[i]? = some v → RelV v u → (∀ b ho, b ≠ T → H1 b = some ho → ObjOk X.prog X.w H1 g b ho) → EV X.prog X.w B cenv g elt (.bl (pb i))
/-- a generator that is ready to be drawn from, n tests -/
def Drawn (X : Cx) (pins : List (Addr × Obj)) (σ : L2.St) (H1 : Hp) (T : Addr) (n : Nat) (pb : Nat → Bool) (g : Addr) (s5 : Shared) : Prop :=
  ∃ (fp wr : List Addr) (G : Array GenState → Array GenState → Prop) (F : Nat → Value → Prop) (St : Nat → Shared → Prop),
    WalksS X.prog X.w X.A.in1 g fp wr G n F St ∧ St 0 s5 ∧ TruthOf X.prog X.w X.A.in1 F pb ∧ ∀ s', Moved wr G s5 s' → ∃ H2, Tabbed T H1 H2 ∧ Inv X pins σ H2 s'

/-- the generator's code object, met already or made now: what is known of the heap behind it -/
theorem code_any {M : Model} {A : Around} {E : Value → Shared → Prop} {s : Shared} {env : Env} {c T : Addr} {ps : Array Value} {pos : Pos} {nm : Str} {sc : Scope} {Q : Value → Shared → Prop}
    (hc : env.code = .ref c) (hi : s.heap.IsCode c T ps) (ht : s.heap.TableAt c T ps) (ok : TriplesOk ps.toList) (hT : s.heap.get? T = some { cls := .none, data := .fields ps })
    (k : ∀ (code : Value) (h3 : Heap) (tk : Nat) (ps' : Array Value), Heap.ExtBut T s.heap h3 → s.heap.objs.size ≤ h3.objs.size → h3.get? T = some { cls := .none, data := .fields ps' } → (∃ more, ps' = ps ++ more) → TriplesOk ps'.toList →
      Q code { s with heap := h3, toks := tk }) : wpAny M A (genexprCode env pos nm sc) Q E s := by
  cases e : codeAmong pos ps.toList with
  | some old => exact wpAny_genexprCode_hit hc hi e (k old s.heap s.toks ps (Heap.ExtBut.refl _ _) (Nat.le_refl _) hT ⟨#[], by simp⟩ ok)
  | none =>
    refine wpAny_genexprCodeX hc hi ht e fun new h3 tk far lo hi' code' _ tab' _ => ?_
    have tr := code'
    obtain ⟨_, _, _, _, _, _, _, _, _, _, _, _, _, _, _, _, _, _, _, tr, _⟩ := tr
    exact k _ h3 tk _ far (by omega) tab'.2 ⟨_, rfl⟩ tr
theorem gen_seq {c T : Addr} {elt iter : Expr} {x : Str} {px gp : Pos} {sc : Scope} {te : TE} {k : Nat} {W : Value → Shared → Prop} {R : Hp → List V → (Nat → Bool) → Prop}
    (hr : Room (k + 1) X.A) (TB : TabB X.base X.mg c T) (hcode : X.env.code = .ref c) (S : GenS X.env sc x) (hi : PE X iter te) (hs : ∀ v, genFold iter X.env v = pure v) (I : Inv X pins σ H s)
    (h : te σ H fun v H1 => ∃ (a : Addr) (xs : List V) (pb : Nat → Bool), v = .ref a ∧ (SqT X.K H1 a xs ∨ SqL X.K H1 a xs) ∧ TabG H1 T ∧ Elt X T sc x elt k H1 xs pb ∧ R H1 xs pb)
    (hQ : ∀ H1 xs pb g s5, R H1 xs pb → Drawn X pins σ H1 T xs.length pb g s5 → W (.ref g) s5) :
    wpAny (model X.prog X.w) X.A (eval (.GeneratorExp elt [⟨.Name x px, iter, [], 0⟩] sc gp) X.env) W X.xe s := by
  refine wpAny_GeneratorExp_walksQD hr.hd S.co (closure_ok S.free) S.cell S.dot S.loc S.kind (by have := hr.dp; omega) ?_ hs
  refine thn (hi.run pins s σ H _ I h) fun xv s1 ⟨v, H1, I1, r1, q1⟩ => ?_
  obtain ⟨a, xs, pb, rfl, hsq, ⟨ps, hT, ht⟩, hel, hR⟩ := q1
  cases (show xv = Value.ref a from r1)
  refine iter_any I1 hsq fun o its St rv haLt Wk hst => ?_
  have hTs : s1.heap.get? T = some { cls := .none, data := .fields ps } := I1.hok T _ hT
  have hTlt : T < s1.heap.objs.size := Heap.lt_size hTs
  have hT2 : (s1.heap.push o).get? T = some { cls := .none, data := .fields ps } := Heap.get?_push_of_some _ hTs
  have push_keep : ∀ b u, s1.heap.get? b = some u → (s1.heap.push o).get? b = some u := fun b u e => Heap.get?_push_of_some _ e
  have cd : PySem.W.CodeHd (s1.heap.push o) c T := TB.code.keeps fun b u e => push_keep b u (I1.bk b u e)
  have lim2 : (s1.heap.push o).NoLimit := I1.nolimit.push o
  have noT : ∀ b u, X.base.get? b = some u → b ≠ T := fun b u e z => by
    have n := (I1.bs b u e).2
    rw [z, hT] at n
    cases n
  have hlen : its.toArray.size = xs.length := by rw [List.size_toArray, rv.length]
  refine ⟨lim2, code_any hcode (cd.code hT2 ht) (cd.tab hT2) ht hT2 fun code h3 tk ps' hx hsz hT3 hmore ht3 => ?_⟩
  obtain ⟨bm, ob, e1, e2, e3, e4, e5, e6, e7, e8⟩ := TB.bm
  have cneT : cStatics ≠ T := fun e => by
    obtain ⟨_, hns, _⟩ := I1.nolimit
    obtain ⟨o', es, ep, ho, hd, _⟩ := hns
    rw [e, hTs] at ho
    cases ho
    cases hd
  have cLt : cStatics < s1.heap.objs.size := let ⟨_, hns, _⟩ := I1.nolimit; hns.lt
  have sz2 : (s1.heap.push o).objs.size = s1.heap.objs.size + 1 := Heap.size_push ..
  have keep3 : ∀ b u, b ≠ T → s1.heap.get? b = some u → h3.get? b = some u := fun b u hb e => hx b u hb (push_keep b u e)
  refine wpAny_builtinsFor (m := X.mg) (by rw [I1.ok.glob]; exact ((I1.mod.glob.keeps I1.bk).push o).extBut hx TB.gP) e1 e2 (keep3 _ _ e4 (I1.bk _ _ e5)) e6 e7 e8 ?_
  have aneT : a ≠ T := fun z => by
    rcases hsq with q | q
    · rcases q with (q | ⟨_, q⟩) | ⟨_, _, _, hk, _⟩
      · rw [z, hT] at q; cases q
      · rw [z, hT] at q; cases q
      · exact noT a _ (I1.mod.kin a _ hk) z
    · rcases q with (q | ⟨_, q⟩) | ⟨_, _, _, hk, _⟩
      · rw [z, hT] at q; cases q
      · rw [z, hT] at q; cases q
      · exact noT a _ (I1.mod.kin a _ hk) z
  have sLt : s1.heap.objs.size < h3.objs.size := Nat.lt_of_lt_of_le (by rw [sz2]; exact Nat.lt_succ_self _) hsz
  have Wk2 : ∀ B : Around, B.handled = none → Walks X.prog X.w B s1.heap.objs.size [s1.heap.objs.size, a] [s1.heap.objs.size] xs.length (fun i v => its.toArray[i]? = some v) St := hlen ▸ Wk
  refine ⟨s1.heap.objs.size, [s1.heap.objs.size, a], [s1.heap.objs.size], xs.length, (fun i v => its.toArray[i]? = some v), St, (fun _ => true), (fun i y => y = .bool (pb i)), rfl, Wk2, ?_, ?_, lim2.extBut hx cneT, ?_, ?_, ?_⟩
  · refine (Wk2 X.A hr.hd).frame _ _ _ hst fun b hb u e => hx b u (fun z => ?_) e
    rcases List.mem_cons.mp hb with z2 | z2
    · exact Nat.ne_of_lt hTlt (z.symm.trans z2)
    · rcases List.mem_cons.mp z2 with z2 | z2
      · exact aneT (z2.symm.trans z)
      · cases z2
  · intro b hb
    show b < h3.objs.size
    rcases List.mem_cons.mp hb with z | z
    · rw [z]; exact sLt
    · rcases List.mem_cons.mp z with z | z
      · rw [z]; exact Nat.lt_trans haLt sLt
      · cases z
  · intro z
    rcases List.mem_cons.mp z with z | z
    · exact Nat.ne_of_lt cLt z
    · cases z
  · intro href hhref
    refine ⟨fun A' E' i v s₂ m₂ hA hD hU hPv hn hm hk => ?_, fun A' E' i v s₂ m₂ hA hD hU hPv hp hn hm hk => ?_⟩
    · simp only [List.forIn_nil]
      exact wpAny_pure ⟨rfl, keeps_refl _⟩
    · have hv2 : its[i]? = some v := by simpa using hPv
      have hi2 : i < xs.length := by
        have := (List.getElem?_eq_some_iff.mp hv2).1
        rw [rv.length]; exact this
      obtain ⟨u, hu, ru⟩ := rv.get (List.getElem?_eq_getElem hi2)
      have euv : u = v := Option.some.inj (hu.symm.trans hv2)
      subst euv
      have ob2 : ∀ b w', b ≠ T → s1.heap.get? b = some w' → s₂.heap.get? b = some w' := fun b w' hb e => by
        have l1 := Heap.lt_size e
        have e3 := keep3 b w' hb e
        refine hk b (List.mem_range.mpr (Heap.lt_size e3)) (fun z => ?_) _ (hhref _ _ e3)
        rcases List.mem_cons.mp z with z | z
        · exact Nat.ne_of_lt l1 z
        · cases z
      have rm : Room k A' := ⟨hA, by have := hr.dp; omega, by have := hr.un; omega⟩
      refine hel A' (genEnv sc (cloFrom X.env.cells sc.names []) h3.objs.size code builtinsNs X.env) s₂.heap i _ u rm rfl I1.ok.glob rfl (fun b w' e => ob2 b w' (noT b w' e) (I1.bk b w' e)) ⟨m₂, hn, hm⟩ (List.getElem?_eq_getElem hi2) ru (fun b ho hb e => ?_) s₂ _ _ (fun _ _ e => e) fun y h' tk' ry hk' => ?_
      · refine (I1.hok b ho e).stay (fun d w' hd q => ob2 d w' ?_ q) (fun _ q => q) fun _ _ q => q
        rcases hd with z | z
        · rw [z]; exact hb
        · intro z2
          rw [z2, hT] at z
          cases z
      · exact ⟨ry, h', tk', rfl, hk'⟩
  · intro g h5 tk5 gs hgb hag hsz5 hk5 W5 hat
    simp only [GxR.passing_true, List.length_range] at W5
    refine hQ H1 xs pb g _ hR ⟨_, _, _, _, _, W5.in4_1, hat, ?_, fun s' hm => ?_⟩
    · intro j y sj Qj Ej hy hQj
      obtain ⟨i, hij, rfl⟩ := hy
      obtain ⟨hj, ej⟩ := List.getElem?_eq_some_iff.mp hij
      rw [List.getElem_range] at ej
      subst ej
      exact wpAny_truthy_bool hQj
    · obtain ⟨more, em⟩ := hmore
      have nwr : ∀ b u, s1.heap.get? b = some u → b ∉ h3.objs.size :: [s1.heap.objs.size] := fun b u e hb => by
        have hl := Heap.lt_size e
        rcases List.mem_cons.mp hb with z | z
        · have h9 : b = h3.objs.size := z
          have : b < s1.heap.objs.size := hl
          rw [h9] at this
          have h10 : h3.objs.size < s1.heap.objs.size := this
          omega
        · rcases List.mem_cons.mp z with z | z
          · rw [z] at hl
            exact Nat.lt_irrefl _ hl
          · cases z
      have J := inv_tab (more := more) (h' := s'.heap) (g' := s'.gens) (d' := s'.drawn) (t' := s'.toks) I1 hT (fun b u hb e => hm.heap b u (nwr b u e) (hk5 b u (keep3 b u hb e)))
        (by rw [← em]; exact hm.heap T _ (nwr T _ hTs) (hk5 T _ hT3)) (AllBare.movedS (I1.bare.push hgb) hm)
      rw [sh_eta s1 s' hm.os] at J
      exact ⟨upd H1 T (.tbl (ps ++ more)), ⟨⟨ps ++ more, upd_same, by rw [← em]; exact ht3⟩, fun b hb => upd_ne hb⟩, J⟩

/-- all(test for x in e): the reading -/
def tAllQ (X : Cx) (T : Addr) (sc : Scope) (x : Str) (elt : Expr) (k : Nat) (te : TE) : TE := fun σ H Q => te σ H fun v H1 => ∃ (a : Addr) (xs : List V) (pb : Nat → Bool),
  v = .ref a ∧ (SqT X.K H1 a xs ∨ SqL X.K H1 a xs) ∧ TabG H1 T ∧ Elt X T sc x elt k H1 xs pb ∧ ∀ H2, Tabbed T H1 H2 → Q (.bl ((List.range xs.length).all pb)) H2
theorem pe_allQ {c T : Addr} {elt iter : Expr} {x : Str} {px p pos gp : Pos} {sc : Scope} {te : TE} {k : Nat} (hr : Room (k + 1) X.A) (hg : Gl X "all") (hm : X.mg "all" = none) (TB : TabB X.base X.mg c T) (hcode : X.env.code = .ref c)
    (S : GenS X.env sc x) (hi : PE X iter te) (hb : bootBuiltins "all" = some (.builtin "all") := by decide +kernel) (hs : ∀ v, genFold iter X.env v = pure v := by intro _; rfl)
    (he : starEach [.GeneratorExp elt [⟨.Name x px, iter, [], 0⟩] sc gp] X.env = (false, eval (.GeneratorExp elt [⟨.Name x px, iter, [], 0⟩] sc gp) X.env) :: starEach [] X.env := by rfl) :
    PE X (.Call (.Name "all" p) [.GeneratorExp elt [⟨.Name x px, iter, [], 0⟩] sc gp] [] pos) (tAllQ X T sc x elt k te) := by
  refine ⟨fun pins s σ H Q I h => wpAny_Call_Name_kw (ld_blt I hg hm hb (PyProof.Rows.callWith_builtin1 ?_ he (by rfl)))⟩
  rw [he]
  show wpAny _ _ (spliced ((false, eval (.GeneratorExp elt [⟨.Name x px, iter, [], 0⟩] sc gp) X.env) :: backTo pos (starEach [] X.env))) _ _ s
  refine Calls.spliced_cons (gen_seq (R := fun H1 xs pb => ∀ H2, Tabbed T H1 H2 → Q (.bl ((List.range xs.length).all pb)) H2) hr TB hcode S hi hs I h fun H1 xs pb g s5 hR hG => ?_)
  obtain ⟨fp, wr, G, F, St, Wk, hst, htr, hI⟩ := hG
  refine Calls.spliced_nil (call_all_walkS (Wk.self 0 _ _ _ hst ⟨g, fp, wr, G, _, F, St, _, rfl, Wk, hst, htr, fun s' hmv => ?_⟩))
  obtain ⟨H2, hT, J⟩ := hI s' hmv
  exact ⟨.bl _, H2, J, rfl, hR H2 hT⟩
end
end Pu
set_option Elab.async false
set_option linter.all false
set_option maxRecDepth 100000
set_option maxHeartbeats 4000000
/-! repr of data; a law's end where repr is asked. -/
namespace Pu
open PySem PySem.Spec PyProof.Rows L2 GxR

/-- the list or tuple d, shown -/
def rRepr (K : PySem.W.Frag) : List V → Hp → VK → Prop := fun vs H Q => ∃ (v : V) (d : PyData), vs = [v] ∧ Dp K H v d ∧ isDisplay d = true ∧ d.showable = true ∧ d.hasDict = false ∧ d.depth ≤ 60 ∧ d.shown.length ≤ sizeLine ∧ Q (.str d.shown) H
theorem cr_repr {X : Cx} (hu : X.A.units + 64 < cLine) (hg : X.A.guards = some []) : CallR X (.builtin "repr") (rRepr X.K) := by
  intro pins s σ H vs us Q I r h
  obtain ⟨v, d, rfl, hd, hi, hs, hn, hz, hl, q⟩ := h
  obtain ⟨u, rfl, rv⟩ := vals1 r
  obtain ⟨as, rd⟩ := Dp.reads I d v u hd rv
  obtain ⟨a, rfl⟩ := isRef_of_reads rd hi
  exact repr_of_reads' rd hs (PyData.noDict_hsm hn) hg (by omega) (fun _ _ e => e) (fun h' t tk hk => ⟨.str d.shown, H, I.kept hk, ⟨t, rfl⟩, q⟩) hl

/-- a def of the text whose code object is known -/
structure FunC (K : PySem.W.Frag) (x qual : Str) (st : Stmt) (f : Addr) (fd : FuncData) (c : Addr) : Prop where
  ex : ∃ (oc : Value) (od : Option Addr) (kV doc pm : Value) (an : Option Addr) (ct : Value) (osl : Array (Option Value)),
    fd = PySem.W.fnOf x qual (defArgs st) (defBody st) (defScope st) .none kV doc pm an (.ref c) ct ∧ K.lookup f = some ⟨oc, od, .func fd, osl⟩ ∧ PySem.W.codeIn K (.ref c) qual = true
  kp : PySem.W.keepIn K (.ref f) = true
theorem FunC.ok {P : Program} {w : World} {K : PySem.W.Frag} {mg : Str → Option Value} {base : Heap} {x qual : Str} {st : Stmt} {f c : Addr} {fd : FuncData} {N ps : List Str} {k : Nat} {sp : Sp} (F : FunC K x qual st f fd c) (S : FnScope N ps (defScope st))
    (len : ∀ vs H Q E, sp vs H Q E → vs.length = ps.length)
    (hbody : ∀ (A : Around) (outer : List Env) (s : Shared) (H : Hp) (vs : List V) (Q : VK) (E : XK), Room k (A.deeper (envOfC qual (defScope st) s.heap.objs.size f (.ref c))) → sp vs H Q E →
      ∃ t, PSs (cxOf CX0 P w K mg base N qual (defScope st) f (.ref c) A outer s H E).nox (defBody st) t ∧ t { nx := fun _ H' => Q .non H', rt := Q } (start N vs) H) : FnOk P w K mg base CX0 (k + 1) f fd ps sp := by
  obtain ⟨oc, od, kV, doc, pm, an, ct, osl, rfl, lk, hcd⟩ := F.ex
  refine fn_of lk hcd S len fun A outer s H vs Q E hr hsp => ?_
  obtain ⟨t, h, q⟩ := hbody A outer s H vs Q E hr hsp
  exact ⟨t, h.nox, q⟩
theorem FunC.fn {K : PySem.W.Frag} {x qual : Str} {st : Stmt} {f c : Addr} {fd : FuncData} (F : FunC K x qual st f fd c) : Fun K x qual st f fd := by
  obtain ⟨oc, od, kV, doc, pm, an, ct, osl, e, lk, hcd⟩ := F.ex
  exact ⟨⟨oc, od, kV, doc, pm, an, .ref c, ct, osl, e, lk, hcd⟩, F.kp⟩

section
variable {P : Program} {w : World} {K : PySem.W.Frag} {mg mb : Str → Option Value} {fa a : Addr} {cs : List (Addr × Addr)} {fd : FuncData} {N : List Str} {x : Str} {st : Stmt} {s₁ : Shared} {vs : List Value} {ns : List Int}
/-- what a law's body is asked: from any base and state, at the caller that the claim names -/
def BodyOk (P : Program) (w : World) (K : PySem.W.Frag) (mg : Str → Option Value) (cs : List (Addr × Addr)) (N : List Str) (st : Stmt) (fa a : Addr) (ns : List Int) : Prop :=
  ∀ (base : Heap) (cdv : Value) (s : Shared) (H : Hp), L2.Mod K mg base → (∀ p ∈ cs, TabB base mg p.1 p.2) → (∀ p ∈ cs, H p.2 = some (.tbl #[])) → SqL K H a (ns.map V.int) →
    ∃ t, PSs (cxOf CX0 P w K mg base N "law" (defScope st) fa cdv callerA [] s H E0).nox (defBody st) t ∧ t { nx := fun _ _ => False, rt := fun v _ => v = .bl true } (start N [.ref a]) H
/-- from a heap that is told by H -/
theorem law_from {H : Hp} (Fn : Fun K "law" "law" st fa fd) (S : FnScope N [x] (defScope st)) (hbind : ∀ (s : Shared) (u : Value), BindsTo s fd ⟨[u], []⟩ [(x, u)]) (hr : Room 9 callerA)
    (B : BodyOk P w K mg cs N st fa a ns) (base : Heap) (M : L2.Mod K mg base) (hT : ∀ p ∈ cs, TabB base mg p.1 p.2) (hH : ∀ p ∈ cs, H p.2 = some (.tbl #[])) (hS : SqL K H a (ns.map V.int))
    (e0 : Env0 P w K mg base callerA [] s₁ H) :
    codeAny (model P w) callerA (.call (.ref fa) ⟨[.ref a], []⟩) (fun r s' => ∃ H', r = .ok (.ret (.bool true)) ∧ s'.os = s₁.os ∧ AllBare s'.gens ∧ Un [] [] H H' s₁.heap s'.heap ∧ HOk P w H' s'.heap) s₁ := by
  obtain ⟨oc, od, kV, doc, pm, an, cdv, ct, osl, rfl, lk, hcd⟩ := Fn.ex
  obtain ⟨t, ht, hq⟩ := B base cdv s₁ H M hT hH hS
  have KX : K.In s₁.heap := M.kin.keeps fun b o e => (e0.bs b o e).1
  have lim : s₁.heap.NoLimit := M.nolimit.keeps fun b o e => (e0.bs b o e).1
  have kinds : ∀ y ∈ [x].zip [Value.ref a], (defScope st).names.lookup y.1 = some .local ∨ ((defScope st).names.lookup y.1 = some .cell ∧ ((cellsFrom (s₁.heap.objs.size + 1) (defScope st).names []).lookup y.1).isSome = true) := fun ⟨n, v⟩ hy => by
    rcases S.par n (List.of_mem_zip hy).1 with q | q
    · exact .inl q
    · exact .inr ⟨q, PySem.W.cellsFrom_some _ _ _ (.inl q)⟩
  refine codeAny_call_function hr.depth (KX _ _ lk) rfl S.co S.gen rfl (PySem.W.codeRec_of KX hcd) (hbind s₁ (.ref a) _ _ _ _ ?_)
  refine wpAny_newFunctionEnv_cells S.kind kinds fun env he s1 X => ?_
  subst he
  refine ⟨lim.keeps X.toInCall.keep, codeAny_func ?_⟩
  have I : Inv (cxOf CX0 P w K mg base N "law" (defScope st) fa cdv callerA [] s₁ H E0) [] (start N [.ref a]) H s1 := inv_start (ps := [x]) (us := [.ref a]) S hr.hd e0 rfl (.cons rfl .nil) X
  refine wpAny_mono (ht.run [] s1 (start N [.ref a]) H _ (I.wish _) hq) (fun fl s' hs => ?_) fun e s' hs => hs.elim
  cases fl with
  | ret u =>
    obtain ⟨v, σ', H', J, rv, q⟩ := hs
    have q2 : v = .bl true := q
    subst q2
    obtain rfl : u = Value.bool true := rv
    exact ⟨H', rfl, J.os, J.bare, J.base, J.hok⟩
  | next =>
    obtain ⟨_, _, _, q⟩ := hs
    exact q.elim
  | brk =>
    obtain ⟨_, _, _, q⟩ := hs
    exact False.elim q
  | cont =>
    obtain ⟨_, _, _, q⟩ := hs
    exact False.elim q

/-- the law's call at the list a ends with True, and what was there is there still -/
abbrev SaysTrue (P : Program) (w : World) (fa a : Addr) (s : Shared) : Prop :=
  codeAny (model P w) callerA (.call (.ref fa) ⟨[.ref a], []⟩) (fun res t => res = .ok (.ret (.bool true)) ∧ OldK s.heap t.heap ∧ t.os = s.os ∧ AllBare t.gens) s
/-- code objects with their tables, all empty yet and none of K -/
def Bare (cs : List (Addr × Addr)) (K : PySem.W.Frag) (h : Heap) : Prop := ∀ p ∈ cs, (h.get? p.2 = some { cls := .none, data := .fields #[] } ∧ K.lookup p.2 = none) ∧ PySem.W.CodeHd h p.1 p.2
/-- the module of the builtins, where the main text finds it -/
def BltMod (mg : Str → Option Value) (h : Heap) : Prop := ∃ m : Addr, ∃ o : Obj, mg "__builtins__" = some (.ref m) ∧ m ≠ builtinsNs ∧ h.get? m = some o ∧ o.cls = .type "module" ∧ o.dict = some builtinsNs ∧ o.data = .plain
/-- the whole end: the heap as it stands behind the top -/
theorem law_end (KX : K.In s₁.heap) (hns : s₁.heap.Ns mainGlobals mg) (hb : s₁.heap.Ns builtinsNs mb) (hbb : ∀ x : Str, x ≠ "__name__" → mb x = bootBuiltins x) (hlim : s₁.heap.NoLimit) (hg : s₁.gens = #[])
    (hcs : Bare cs K s₁.heap) (hbm : BltMod mg s₁.heap)
    (ha : s₁.heap.get? a = some { cls := .type "list", data := .seq vs.toArray }) (hi : IntsAre vs ns) (hl : ns.length ≤ sizeLine)
    (Fn : Fun K "law" "law" st fa fd) (S : FnScope N [x] (defScope st)) (hbind : ∀ (s : Shared) (u : Value), BindsTo s fd ⟨[u], []⟩ [(x, u)]) (hr : Room 9 callerA) (B : BodyOk P w K mg cs N st fa a ns) :
    SaysTrue P w fa a s₁ := by
  have hT := fun p hp => (hcs p hp).1.1
  have nT := fun p hp => (hcs p hp).1.2
  have C := fun p hp => (hcs p hp).2
  -- the tables, the script
  let Ts := cs.map (·.2)
  have tab : ∀ b, b ∈ Ts → s₁.heap.get? b = some { cls := .none, data := .fields #[] } := fun b h => by
    obtain ⟨p, hp, rfl⟩ := List.mem_map.mp h
    exact hT p hp
  have inT : ∀ p ∈ cs, p.2 ∈ Ts := fun p hp => List.mem_map.mpr ⟨p, hp, rfl⟩
  have aNot : a ∉ Ts := fun z => by
    have q := (tab a z).symm.trans ha
    cases congrArg Obj.data (Option.some.inj q)
  have rv := vals_ints hi
  have frame : ∀ (u : Option HO), (u = none ∨ u = some (.frz { cls := .type "list", data := .seq vs.toArray } (.lst (ns.map V.int)))) → (u ≠ none → K.lookup a = none) →
      SqL K (fun b => if b = a then u else if b ∈ Ts then some (.tbl #[]) else none) a (ns.map V.int) →
      SaysTrue P w fa a s₁ := by
    intro u hu hKa hS
    generalize hHdef : (fun b => if b = a then u else if b ∈ Ts then some (HO.tbl #[]) else none : Hp) = H at hS
    have Ha : H a = u := by rw [← hHdef]; exact if_pos rfl
    have HT : ∀ b, b ∈ Ts → H b = some (.tbl #[]) := fun b h => by
      have nb : b ≠ a := fun z => aNot (z ▸ h)
      rw [← hHdef]
      exact (if_neg nb).trans (if_pos h)
    have HN : ∀ b, b ≠ a → b ∉ Ts → H b = none := fun b h1 h2 => by
      rw [← hHdef]
      exact (if_neg h1).trans (if_neg h2)
    have ok : HOk P w H s₁.heap := fun b o e => by
      by_cases h1 : b = a
      · subst h1
        rw [Ha] at e
        rcases hu with z | z
        · rw [z] at e; cases e
        · rw [z] at e
          cases e
          exact ⟨ha, by rw [List.length_map]; exact hl, vs, _, rv, ha⟩
      · by_cases h2 : b ∈ Ts
        · rw [HT b h2] at e
          cases e
          exact tab b h2
        · rw [HN b h1 h2] at e; cases e
    -- what is neither a list nor an empty table is not tracked
    have plain : ∀ {b : Addr} {o : Obj}, s₁.heap.get? b = some o → (∀ q n, o.data ≠ .seq q n) → o.data ≠ .fields #[] → H b = none := fun {b o} e h1 h2 => by
      refine HN b (fun z => ?_) fun z => ?_
      · rw [z, ha] at e
        cases e
        exact h1 _ _ rfl
      · rw [tab b z] at e
        cases e
        exact h2 rfl
    have dct : ∀ {b : Addr} {o : Obj} {es : Array DictEntry} {ep : Nat}, s₁.heap.get? b = some o → o.data = .dict es ep → H b = none := fun e d =>
      plain e (fun q n z => by rw [d] at z; cases z) fun z => by rw [d] at z; cases z
    have bg : ∀ {b : Addr} {o : Obj}, s₁.heap.get? b = some o → H b = none → (hidT s₁.heap H).get? b = some o := fun e n => hidT_get e n
    have nsB : ∀ {b : Addr} {m : Str → Option Value}, s₁.heap.Ns b m → (hidT s₁.heap H).Ns b m := fun ⟨o, es, ep, e, d, r⟩ => ⟨o, es, ep, bg e (dct e d), d, r⟩
    have KB : K.In (hidT s₁.heap H) := fun b o e => by
      refine bg (KX b o e) ?_
      by_cases h1 : b = a
      · rw [h1, Ha]
        rcases hu with z | z
        · exact z
        · have := hKa (by rw [z]; simp)
          rw [← h1, e] at this
          cases this
      · refine HN b h1 fun h2 => ?_
        obtain ⟨p, hp, ep⟩ := List.mem_map.mp h2
        rw [← ep, nT p hp] at e
        cases e
    have M : L2.Mod K mg (hidT s₁.heap H) := ⟨KB, nsB hns, ⟨mb, nsB hb, hbb⟩, let ⟨mc, h1, h2⟩ := hlim; ⟨mc, nsB h1, h2⟩⟩
    have TB : ∀ p ∈ cs, TabB (hidT s₁.heap H) mg p.1 p.2 := fun p hp => by
      have hTp := hT p hp
      refine ⟨?_, ?_, fun z => ?_⟩
      · obtain ⟨o, us, file, tf, flags, tg, inF, text, tt, e1, r1, r2, r3, r⟩ := C p hp
        refine ⟨o, us, file, tf, flags, tg, inF, text, tt, bg e1 (plain e1 (fun q n z => ?_) fun z => ?_), r1, r2, r3, r⟩
        · rw [r2] at z; cases z
        · rw [r2] at z
          cases z
          simp at r3
      · obtain ⟨bm, ob, b1, b2, b3, b4, b5, b6⟩ := hbm
        have nG : bm ≠ mainGlobals := fun q => by
          obtain ⟨o, es, ep, e, hd, _⟩ := hns
          rw [q, e] at b3
          cases b3
          rw [hd] at b6
          cases b6
        have nP : bm ≠ p.2 := fun q => by
          rw [q, hTp] at b3
          cases b3
          cases b6
        exact ⟨bm, ob, b1, b2, nG, nP, bg b3 (plain b3 (fun q n z => by rw [b6] at z; cases z) fun z => by rw [b6] at z; cases z), b4, b5, b6⟩
      · obtain ⟨o, es, ep, e, hd, _⟩ := hns
        rw [z, hTp] at e
        cases e
        cases hd
    have e0 : Env0 P w K mg (hidT s₁.heap H) callerA [] s₁ H :=
      ⟨rfl, M, fun b o e => of_hidT e, Nat.le_of_eq (hidT_size _ _), trivial, fun b hb => absurd (show b ∈ ([] : List Addr) from hb) List.not_mem_nil, ok, .of_eq hg⟩
    refine codeAny_mono (law_from Fn S hbind hr B _ M TB (fun p hp => HT _ (inT p hp)) hS e0) fun r s' h => ?_
    obtain ⟨H', rfl, os, bare, un, ok'⟩ := h
    have same : ∀ b o, b ∉ Ts → s₁.heap.get? b = some o → s'.heap.get? b = some o := fun b o nb e => by
      by_cases h1 : b = a
      · rcases hu with z | z
        · exact un.keep b o e (by rw [h1, Ha, z]) (by simp) (by simp)
        · have z1 : H a = some (.frz { cls := .type "list", data := .seq vs.toArray } (.lst (ns.map V.int))) := Ha.trans z
          obtain ⟨e2, _⟩ := ok' a _ (un.frzs a _ _ z1)
          rw [h1] at e ⊢
          rw [ha] at e
          cases e
          exact e2
      · exact un.keep b o e (HN b h1 nb) (by simp) (by simp)
    have grown : ∀ b, b ∈ Ts → ∃ more : Array Value, s'.heap.get? b = some { cls := .none, data := .fields more } := fun b h => by
      obtain ⟨more, z⟩ := un.tbls b #[] (HT b h)
      exact ⟨_, ok' b _ z⟩
    refine ⟨rfl, ⟨fun b o e => ?_, fun b o e => ?_⟩, os, bare⟩
    · by_cases h : b ∈ Ts
      · obtain ⟨more, hm⟩ := grown b h
        obtain ⟨p, hp, rfl⟩ := List.mem_map.mp h
        rw [hT p hp] at e
        cases e
        exact .inr (.inl ⟨((C p hp).tab (hT p hp)).isCodeTable, rfl, #[], more, rfl, by rw [Array.empty_append]; exact hm⟩)
      · exact .inl (same b o h e)
    · by_cases h : b ∈ Ts
      · obtain ⟨more, hm⟩ := grown b h
        exact ⟨_, hm⟩
      · exact ⟨o, same b o h e⟩
  cases hk : K.lookup a with
  | some o =>
    have e := KX a o hk
    rw [ha] at e
    cases e
    refine frame none (.inl rfl) (fun h => (h rfl).elim) (.inr ⟨_, vs.toArray, _, hk, rfl, rfl, rfl, ?_, by simpa using rv⟩)
    rw [List.size_toArray, hi.length]
    exact hl
  | none => exact frame _ (.inr rfl) (fun _ => hk) (.inl (.inr ⟨_, if_pos rfl⟩))
end
end Pu
set_option Elab.async false
set_option linter.all false
set_option maxRecDepth 100000
set_option maxHeartbeats 4000000
/-! enumerate of a tuple; for over either; calls by keywords alone; len(set(ints)). -/
namespace Pu
open PySem PySem.Spec PyProof.Rows L2 GxR

theorem meets_enum_tup (l : Addr) (items : Array Value) (n : Nat) (dct : Option Addr) (sl : Array (Option Value)) :
    Meets (Builtin.«enumerate.__new__» ⟨[.type "enumerate", .ref l], []⟩) (fun _ R s => s.heap.get? l = some { cls := .type "tuple", dict := dct, data := .seq items n, slots := sl } ∧
      R (.ok (.ret (.ref (s.heap.push { cls := .type "tuple_iterator", data := .fields #[.ref l, .int 0 0] }).objs.size)))
        { s with heap := (s.heap.push { cls := .type "tuple_iterator", data := .fields #[.ref l, .int 0 0] }).push { cls := .type "enumerate", data := .fields #[.none, .bool false, .ref s.heap.objs.size, rawInt 0, .none, .none] } }) :=
  .of_wp fun prog w A R s h => by
    obtain ⟨hp, g, d, tk, os⟩ := s
    obtain ⟨hl, h⟩ := h
    have sub := sub_enumerate
    have hL : Heap.IsTuple (Shared.heap ⟨hp, g, d, tk, os⟩) l items := ⟨_, hl, rfl, n, rfl⟩
    wp_walk using wpAny_loadPart' hl
    refine wpAny_stack_any fun st => wpAny_pure ?_
    split
    · rename_i c _ _ _ _ _
      cases (c == Value.type "enumerate")
      all_goals
        wp_walk using wpAny_loadPart' hl, wpAny_pyIter_tuple hL
        exact ⟨_, rfl, h⟩
    · wp_walk using wpAny_loadPart' hl, wpAny_pyIter_tuple hL
      exact ⟨_, rfl, h⟩

section
variable {prog : Program} {w : World} {A : Around} {E : Value → Shared → Prop} {s : Shared}
theorem call_enum_tup {t : Addr} {items : Array Value} {Q : Value → Shared → Prop} (hL : s.heap.IsTuple t items)
    (h : ∀ h', IsEnum h' (s.heap.objs.size + 1) s.heap.objs.size 0 .none → h'.IsTupleIter s.heap.objs.size t 0 → (∀ b o, s.heap.get? b = some o → h'.get? b = some o) → Q (.ref (s.heap.objs.size + 1)) { s with heap := h' }) :
    wpAny (model prog w) A (call (.type "enumerate") [.ref t]) Q E s := by
  obtain ⟨⟨c, dct, dt, sl⟩, hl, hc, n, hd⟩ := hL
  have hc2 : c = .type "tuple" := hc
  have hd2 : dt = .seq items n := hd
  subst hc2 hd2
  refine callType_new F.called_enumerate (by decide) (F.typeCall_enumerate_1 _) (F.newCall_enumerate_1 _) (fun obj => F.args_object_init_2 obj _) F.entry_enumerate_new (meets_enum_tup t items n dct sl) ⟨hl, ?_⟩
  have hz : (s.heap.push { cls := .type "tuple_iterator", data := .fields #[.ref t, .int 0 0] }).objs.size = s.heap.objs.size + 1 := Heap.size_push ..
  show _ ∧ _
  rw [hz]
  have he : IsEnum ((s.heap.push { cls := .type "tuple_iterator", data := .fields #[.ref t, .int 0 0] }).push
      { cls := .type "enumerate", data := .fields #[.none, .bool false, .ref s.heap.objs.size, rawInt 0, .none, .none] }) (s.heap.objs.size + 1) s.heap.objs.size 0 .none := by
    have q := Heap.get?_push_size (s.heap.push { cls := .type "tuple_iterator", data := .fields #[.ref t, .int 0 0] })
      (o := { cls := .type "enumerate", data := .fields #[.none, .bool false, .ref s.heap.objs.size, rawInt 0, .none, .none] }) rfl
    rw [hz] at q
    exact q
  exact ⟨⟨_, he, rfl⟩, h _ he ⟨_, Heap.get?_push_of_some _ (Heap.get?_push_size _ rfl), rfl, rfl⟩ fun b o x => Heap.get?_push_of_some _ (Heap.get?_push_of_some _ x)⟩
end
/-- the tuple at a as it stands at each turn, each item in a new pair -/
def Ite2 (K : PySem.W.Frag) (a : Addr) : It :=
  ⟨fun i H => ∃ (xs : List V) (x : V), SqT K H a xs ∧ xs[i]? = some x,
    fun i H v H' => ∃ T x, v = .ref T ∧ H T = none ∧ H' = upd H T (.tup [.int (i : Nat), x]) ∧ ∀ xs, SqT K H a xs → xs[i]? = some x,
    fun i H => ∃ xs : List V, SqT K H a xs ∧ xs.length = i⟩
theorem turn_enumT {P : Program} {w : World} {K : PySem.W.Frag} {elts : List Expr} {kk : Nat} {tpos : Pos} (a e it : Addr) (hat : a ≠ it) (hae : a ≠ e) :
    Turn P w K (.Tuple elts kk tpos) (Ite2 K a) [e, it] e (fun i h => (∃ old, IsEnum h e it ((i : Nat) : Int) old) ∧ h.IsTupleIter it a i ∧ e ≠ it) where
  mem := by simp
  obj := fun i h st b hb => by
    obtain ⟨⟨old, he⟩, ⟨o, ho, hc, hd⟩, _⟩ := st
    rcases List.mem_cons.mp hb with z | z
    · rw [z]
      exact ⟨_, he, fun v q => nomatch q⟩
    · rw [List.mem_singleton.mp z]
      exact ⟨o, ho, fun v q => by rw [hd] at q; cases q⟩
  keep := fun i h h' st k => by
    obtain ⟨⟨old, he⟩, hi, hne⟩ := st
    exact ⟨⟨old, k e (by simp) _ he⟩, hi.at fun o q => k it (by simp) o q, hne⟩
  item := by
    intro X hP hw hK hc i pins s σ H E I hf st hg
    subst hP hw hK
    obtain ⟨⟨old, he⟩, hit, hne⟩ := st
    obtain ⟨xs, x, hq, hx⟩ := hg
    obtain ⟨its, rv, p, hz⟩ := I.tuple hq
    obtain ⟨u, hu, ru⟩ := rv.get hx
    have hel : e < s.heap.objs.size := Heap.lt_size he
    have hil : it < s.heap.objs.size := by
      obtain ⟨_, q, _⟩ := hit
      exact Heap.lt_size q
    have hd : X.A.handled = none := I.ok.hd hc
    have hlt : i < its.toArray.size := by
      rw [List.size_toArray]
      exact (List.getElem?_eq_some_iff.mp hu).1
    refine wpAny_pyNext_enum_itemD (Draws.tuple (A := X.A.in1) hd it a hat its.toArray) he ⟨hit, p⟩ hlt hne (by simp [hne, Ne.symm hae]) fun x' h' tk hP ho st' hT hsz hk => ?_
    have ex : x' = u := by
      have q : its.toArray[i]? = some x' := hP
      rw [List.getElem?_toArray, hu] at q
      exact (Option.some.inj q).symm
    subst ex
    refine ⟨_, rfl, wpAny_letOwnedTupleGo_enum (s := { s with heap := h', toks := tk + 1 }) ho fun h'' he' sb => ?_⟩
    have hT2 : h''.get? s.heap.objs.size = some { cls := .type "tuple", data := .seq #[.int i tk, x'] } := (sb.2 _ (Nat.ne_of_gt hel)).trans hT
    have new : ObjOk X.prog X.w (upd H s.heap.objs.size (.tup [.int (i : Nat), x])) h'' s.heap.objs.size (.tup [.int (i : Nat), x]) :=
      ⟨by show 2 ≤ sizeLine; decide, [.int i tk, x'], .cons ⟨_, rfl⟩ (.cons ru .nil), ⟨_, hT2, rfl, _, rfl⟩⟩
    have I1 : Inv X pins σ (upd H s.heap.objs.size (.tup [.int (i : Nat), x])) { s with heap := h'', toks := tk + 1 } :=
      I.turnedNew (ch := [e, it]) (fun b ob hb q => (sb.2 b (fun z => hb (by simp [z]))).trans (hk b ob (fun z => hb (by simp [z])) (fun z => hb (by simp [z])) q)) hf (Nat.le_refl _) new
    refine ⟨.ref s.heap.objs.size, _, I1, rfl, ⟨_, x, rfl, I.hok.fresh (Nat.le_refl _), rfl, fun ys hy => by rw [I.tuple_inj hy hq]; exact hx⟩, ⟨⟨x', ?_⟩, st'.1.at fun o q => (sb.2 it (Ne.symm hne)).trans q, hne⟩, fun b hb => ?_⟩
    · have e1 : ((i + 1 : Nat) : Int) = (i : Int) + 1 := by omega
      rw [e1]
      exact he'
    · have hb2 : b < s.heap.objs.size := by
        rcases List.mem_cons.mp hb with z | z
        · rw [z]; exact hel
        · rw [List.mem_singleton.mp z]; exact hil
      rw [upd_ne (Nat.ne_of_lt hb2)]
      exact (hf b hb).1
  done := by
    intro X hP hw hK hc i pins s σ H E I hf st hg
    subst hP hw hK
    obtain ⟨⟨old, he⟩, hit, hne⟩ := st
    obtain ⟨xs, hq, hx⟩ := hg
    obtain ⟨its, rv, p, hz⟩ := I.tuple hq
    obtain ⟨f0, f1, f2, f3, f4, f5⟩ := hf it (by simp)
    have hl := rv.length
    have hd : X.A.handled = none := I.ok.hd hc
    have hi : i = its.toArray.size := by rw [List.size_toArray, ← hl, hx]
    subst hi
    exact wpAny_pyNext_enum_endD (Draws.tuple (A := X.A.in1) hd it a hat its.toArray) he ⟨hit, p⟩ fun h' eb => ⟨rfl, I.turned (t' := s.toks) (fun b o hb q => eb b o hb q) f0 f1 f3 f4 f5⟩
  self := fun A i s Q E st h => by
    obtain ⟨⟨_, he⟩, _⟩ := st
    exact wpAny_pyIter_enum he h
theorem walk_enumT {K : PySem.W.Frag} {a : Addr} {xs : List V} :
    Walk (Ite2 K a) xs.length (fun H => SqT K H a xs) (YPair (fun i => some (.int (i : Nat))) (fun i => xs[i]?)) := by
  refine ⟨fun i _ hi q => ⟨xs, xs[i], q, by simp [hi]⟩, fun _ q => ⟨xs, q, rfl⟩, fun i H v H' _ q y => ?_⟩
  obtain ⟨T, x, h1, h2, h3, h4⟩ := y
  exact ⟨T, .int (i : Nat), x, h1, h2, h3, rfl, h4 xs q⟩
def iEnumT (K : PySem.W.Frag) (ta : TA) : TI := fun σ H R => ta σ H fun vs H1 => ∃ a xs, vs = [.ref a] ∧ SqT K H1 a xs ∧ R (Ite2 K a) H1
section
variable {X : Cx} {tg : Expr}
theorem pi_enumT {e : Expr} {ta : TA} {p pos tpos : Pos} {elts : List Expr} {kk : Nat} (hg : Gl X "enumerate") (hm : X.mg "enumerate" = none) (ha : PA X [e] ta) (hs : starEach [e] X.env = [(false, eval e X.env)] := by rfl) :
    PI X (.Tuple elts kk tpos) (.Call (.Name "enumerate" p) [e] [] pos) (iEnumT X.K ta) := by
  refine ⟨fun pins s σ H R I h => Call_ (ld_blt I hg hm boot_enumerate (PyProof.Rows.callWith_type1 (thn (ha.run pos pins s σ H _ I h) fun us s1 ⟨vs, H1, I1, r1, q1⟩ => ?_) hs rfl))⟩
  obtain ⟨a, xs, rfl, hq, q⟩ := q1
  obtain ⟨u, rfl, r⟩ := vals1 r1
  cases (show u = Value.ref a from r)
  obtain ⟨its, rv, p', hz⟩ := I1.tuple hq
  have hat : a < s1.heap.objs.size := p'.lt
  refine call_enum_tup (show s1.heap.IsTuple a its.toArray from p') fun h' he hit hk => wpAny_pyIter_enum he ?_
  have I2 : Inv X pins σ H1 { s1 with heap := h' } := I1.kept (t' := s1.toks) hk
  refine ⟨s1.heap.objs.size + 1, [s1.heap.objs.size + 1, s1.heap.objs.size], _, _, H1, rfl, I2, turn_enumT a (s1.heap.objs.size + 1) s1.heap.objs.size (Nat.ne_of_lt hat) (Nat.ne_of_lt (Nat.lt_succ_of_lt hat)), ⟨⟨.none, he⟩, hit, Nat.succ_ne_self _⟩, fun b hb => ?_, q⟩
  have hle : s1.heap.objs.size ≤ b := by
    rcases List.mem_cons.mp hb with z | z
    · rw [z]
      exact Nat.le_add_right _ _
    · rw [List.mem_singleton.mp z]
      exact Nat.le_refl _
  exact I1.fpOk hle (I1.hok.fresh hle)

/-- a, b = a tuple or a list of two .. -/
def gSeq (K : PySem.W.Frag) (n : Nat) (t : TGs) : TG := fun v σ H Q => ∃ a xs, v = .ref a ∧ (SqT K H a xs ∨ SqL K H a xs) ∧ xs.length = n ∧ t xs σ H Q
theorem pg_seq {es : List Expr} {k : Nat} {pos : Pos} {t : TGs} {n : Nat} (hc : X.calm = true) (h : PGs X es t) (hn : (assignEach es X.env).length = n := by rfl) (hst : (assignEach es X.env).findIdx? (·.1) = none := by rfl) :
    PG X (.Tuple es k pos) (gSeq X.K n t) := by
  refine ⟨fun pins s σ H v u Q I r hw => ?_⟩
  obtain ⟨a, xs, e, hq | hq, hl, hw⟩ := hw
  · exact (pg_tup (n := n) hc h hn hst).run pins s σ H v u Q I r ⟨a, xs, e, hq, hl, hw⟩
  · exact (pg_lst (n := n) hc h hn hst).run pins s σ H v u Q I r ⟨a, xs, e, hq, hl, hw⟩
/-- for over a tuple or a list: whichever it is -/
def iSeq (K : PySem.W.Frag) (tl : TE) : TI := fun σ H R => tl σ H fun v H1 => ∃ (a : Addr) (xs : List V), v = .ref a ∧ (SqT K H1 a xs ∨ SqL K H1 a xs) ∧
  ∀ (J : It) (G : Hp → Prop), Walk J xs.length G (YAt xs) → (∀ H', Evl.Ex H1 H' → G H') → R J H1
theorem pi_seq {l : Expr} {tl : TE} (hl : PE X l tl) : PI X tg l (iSeq X.K tl) := by
  refine ⟨fun pins s σ H R I h => thn (hl.run pins s σ H _ I h) fun v s1 ⟨x, H1, I1, r1, q1⟩ => ?_⟩
  obtain ⟨a, xs, rfl, hq, q⟩ := q1
  cases (show v = Value.ref a from r1)
  have fin : ∀ b ∈ [s1.heap.objs.size], FpOk X pins H1 b := fun b hb => by
    rw [List.mem_singleton.mp hb]
    exact I1.fpOk (Nat.le_refl _) (I1.hok.fresh (Nat.le_refl _))
  rcases hq with hq | hq
  · obtain ⟨its, rv, p, hz⟩ := I1.tuple hq
    refine wpAny_pyIter_tuple (show s1.heap.IsTuple a its.toArray from p) ?_
    exact ⟨s1.heap.objs.size, [s1.heap.objs.size], _, _, H1, rfl, I1.kept (t' := s1.toks) (fun b o e => Heap.get?_push_of_some _ e), turn_tuple a _, ⟨_, Heap.get?_push_size _ rfl, rfl, rfl⟩, fin, q _ _ walk_tup fun H' e => Evl.ex_t e hq⟩
  · obtain ⟨its, rv, p, hz⟩ := I1.list hq
    refine wpAny_pyIter_list p.isList ?_
    exact ⟨s1.heap.objs.size, [s1.heap.objs.size], _, _, H1, rfl, I1.kept (t' := s1.toks) (fun b o e => Heap.get?_push_of_some _ e), turn_list a _, ⟨_, Heap.get?_push_size _ rfl, rfl, rfl⟩, fin, q _ _ walk_list fun H' e => Evl.ex_l e hq⟩

/-- f(k = v, ..) -/
def tCallW (sp : Sp) (gV : List V → List V) (E : XK) (tk : TA) : TE := fun σ H Q => tk σ H fun zs H2 => sp (gV zs) H2 Q E
structure KwOk (K : PySem.W.Frag) (fd : FuncData) (ps ks : List Str) (g : List Value → List Value) (gV : List V → List V) : Prop where
  to : ∀ (s : Shared) (ws : List Value), K.In s.heap → (g ws).length = ps.length → BindsTo s fd ⟨[], ks.zip ws⟩ (ps.zip (g ws))
  rel : ∀ {zs : List V} {ws : List Value}, Vals zs ws → Vals (gV zs) (g ws)
theorem pe_callW {CX : CXT} {k : Nat} {f : Addr} {fd : FuncData} {ps ks : List Str} {sp : Sp} {E : XK} {x : Str} {p pos : Pos} {kws : List Keyword} {tk : TA} {g : List Value → List Value} {gV : List V → List V}
    (F : FnOk X.prog X.w X.K X.mg X.base CX k f fd ps sp) (hr : Room k X.A) (hg : Gl X x) (hm : X.mg x = some (.ref f)) (hk : PySem.W.keepIn X.K (.ref f) = true) (hb : KwOk X.K fd ps ks g gV) (hx : Passes CX X E)
    (hkw : PK X kws tk) (hall : (backToKw pos (keywordEach kws X.env)).all (·.1.isSome) = true := by rfl) (hks : (backToKw pos (keywordEach kws X.env)).filterMap (·.1) = ks := by rfl)
    (hdb : (x == ("__debug__" : Str)) = false := by decide) (hpl : ((backTo pos (starEach [] X.env)).any (·.1) || (backToKw pos (keywordEach kws X.env)).any (·.1.isNone)) = false := by rfl) :
    PE X (.Call (.Name x p) [] kws pos) (tCallW sp gV E tk) := by
  refine ⟨fun pins s σ H Q I h => wpAny_Call_Name_kw (ld_glob I hg hm (PySem.W.callWith_KW0 (h₀ := X.base) I.ok.mod.kin hk hall ?_ hpl) hdb)⟩
  refine thn (hkw.run pos pins s σ H _ I h) fun ws s2 ⟨zs, H2, I2, rz, q2⟩ => ⟨I2.kIn, ?_⟩
  rw [hks]
  show wpAny _ _ (call (.ref f) [] (ks.zip ws)) _ _ _
  have r2 := hb.rel rz
  have hl : (g ws).length = ps.length := by rw [← r2.length]; exact F.len _ _ _ _ q2
  refine wpAny_call (codeAny_mono (F.run X.A X.stack s2 H2 ⟨[], ks.zip ws⟩ (g ws) (gV zs) Q E hr I2.env0 (hb.to s2 ws I2.kIn hl) r2 q2) fun r s' hq => ?_)
  cases r with
  | error e => exact hx pins σ H2 s2 e s' I2 hq
  | ok fl =>
    cases fl with
    | ret u => exact I2.after hq
    | next => exact False.elim hq
    | brk => exact False.elim hq
    | cont => exact False.elim hq

/-- len(set(ints)) -/
def tLenSet (K : PySem.W.Frag) (ta : TE) : TE := fun σ H Q => ta σ H fun x H1 => ∃ (l : Addr) (ns : List Int), x = .ref l ∧ SqL K H1 l (ns.map V.int) ∧ ns.length ≤ 4000 ∧ Q (.int ((PyProof.Rows.firstMet (fun i => ns.getD i 0) ns.length).length : Nat)) H1
theorem pe_lenSet {a : Expr} {ta : TE} {p p2 q pos : Pos} (hg : Gl X "len") (hm : X.mg "len" = none) (hg2 : Gl X "set") (hm2 : X.mg "set" = none) (ha : PE X a ta) (hc : X.calm = true := by rfl)
    (na : starEach [a] X.env = (false, eval a X.env) :: starEach [] X.env := by rfl) : PE X (.Call (.Name "len" p) [.Call (.Name "set" p2) [a] [] q] [] pos) (tLenSet X.K ta) := by
  refine ⟨fun pins s σ H Q I h => Call_ (ld_blt I hg hm boot_len (PyProof.Rows.callWith_builtin1 (PyProof.Rows.args_cons (Call_ (ld_blt I hg2 hm2 boot_set ?_)) rfl) rfl rfl))⟩
  refine PyProof.Rows.callWith_type1 (PyProof.Rows.args_cons (thn (ha.run pins s σ H _ I h) fun v s1 ⟨x, H1, I1, r1, q1⟩ => PyProof.Rows.args_nil ?_) na) na rfl
  obtain ⟨l, ns, rfl, hq, hl, q1⟩ := q1
  cases (show v = Value.ref l from r1)
  obtain ⟨its, r, pl, hz⟩ := I1.list hq
  have hlen : its.toArray.size = ns.length := by rw [List.size_toArray, ← r.length, List.length_map]
  refine call_set_list (I1.ok.hd hc) pl.isList (by simpa using RZ.intsAre_vals r) (by rw [hlen]; unfold scanBound; omega) fun h' tk hS hk => PyProof.Rows.args_nil ?_
  rw [hlen] at hS
  have hle := PyProof.Rows.firstMet_length_le (fun i => ns.getD i 0) ns.length
  obtain ⟨o, es, ep, t, ho, hex, hd, _, _, _, hf, hn⟩ := hS
  have I2 : Inv X pins σ H1 { s1 with heap := h', toks := tk } := I1.kept fun b o e => hk b o (Heap.lt_size e) e
  exact call_len_set ho hex hd hf (by rw [hn] <;> omega) ⟨.int _, H1, I2.tok _, ⟨_, by rw [hn]⟩, q1⟩
end
end Pu
set_option Elab.async false
set_option linter.all false
set_option maxRecDepth 100000
set_option maxHeartbeats 4000000
/-! what values are, at a heap; the builtins that tell it; a pure def as a promise of the layer. -/
namespace Pu
open PySem PySem.Spec PyProof.Rows L2 GxR

/-- a tuple (b = true) or a list of these, at a -/
def SeqG (g : Heap) (b : Bool) (a : Addr) (its : List Value) : Prop := its.length ≤ sizeLine ∧ if b = true then IsTup g a its.toArray else PlainL g a its.toArray
theorem SeqG.mono {g h : Heap} {b : Bool} {a : Addr} {its : List Value} (x : SeqG g b a its) (e : Ext g h) : SeqG h b a its := by
  refine ⟨x.1, ?_⟩
  cases b with
  | true =>
    obtain ⟨o, ho, r⟩ := (show IsTup g a its.toArray from x.2)
    exact ⟨o, e _ _ ho, r⟩
  | false => exact (show PlainL g a its.toArray from x.2).keeps e
inductive TyG (g : Heap) : V → String → Prop
  | non : TyG g .non "NoneType"
  | bl (b : Bool) : TyG g (.bl b) "bool"
  | int (i : Int) : TyG g (.int i) "int"
  | str (x : Str) : TyG g (.str x) "str"
  | tup {a : Addr} {its : List Value} (h : SeqG g true a its) : TyG g (.ref a) "tuple"
  | lst {a : Addr} {its : List Value} (h : SeqG g false a its) : TyG g (.ref a) "list"
theorem TyG.mono {g h : Heap} {x : V} {t : String} (y : TyG g x t) (e : Ext g h) : TyG h x t := by
  cases y with
  | non => exact .non
  | bl b => exact .bl b
  | int i => exact .int i
  | str x => exact .str x
  | tup q => exact .tup (q.mono e)
  | lst q => exact .lst (q.mono e)
theorem TyG.kit {K : PySem.W.Frag} {g : Heap} {x : V} {t : String} {u : Value} (y : TyG g x t) (r : RelV x u) : ∃ P : Heap → Prop, PySem.W.KitX K u (.type t) P ∧ P g ∧ u ≠ .builtin "__main__.__loader__#opaque" := by
  cases y with
  | non => cases (show u = Value.none from r); exact ⟨_, PySem.W.kitx_none, True.intro, fun z => nomatch z⟩
  | bl b => cases (show u = Value.bool b from r); exact ⟨_, PySem.W.kitx_bool, True.intro, fun z => nomatch z⟩
  | int i => obtain ⟨t, rfl⟩ := (show ∃ t, u = Value.int i t from r); exact ⟨_, PySem.W.kitx_int, True.intro, fun z => nomatch z⟩
  | str y => obtain ⟨t, rfl⟩ := (show ∃ t, u = Value.str y t from r); exact ⟨_, PySem.W.kitx_str, True.intro, fun z => nomatch z⟩
  | @tup a its q =>
    cases (show u = Value.ref a from r)
    obtain ⟨o, h1, h2, _⟩ := (show IsTup g a its.toArray from q.2)
    exact ⟨_, PySem.W.kitx_tuple, ⟨o, h1, h2⟩, fun z => nomatch z⟩
  | @lst a its q =>
    cases (show u = Value.ref a from r)
    obtain ⟨o, n, h1, h2, _⟩ := (show PlainL g a its.toArray from q.2)
    exact ⟨_, PySem.W.kitx_list, ⟨o, h1, h2⟩, fun z => nomatch z⟩
/-- what kind of thing an abstract heap tells -/
theorem TyG.of_sq {P : Program} {w : World} {K : PySem.W.Frag} {H : Hp} {h : Heap} {a : Addr} {xs : List V} (ok : HOk P w H h) (kin : K.In h) (q : SqT K H a xs ∨ SqL K H a xs) : ∃ (b : Bool) (its : List Value), Vals xs its ∧ SeqG h b a its := by
  rcases q with q | q
  · rcases q with q | ⟨o, its, n, hk, hc, hs, hz, r⟩
    · obtain ⟨z, its, r, p⟩ := q.ok ok
      exact ⟨true, its, r, by rw [← r.length]; exact z, p⟩
    · refine ⟨true, its.toList, r, by simpa using hz, ?_⟩
      exact ⟨o, kin a o hk, hc, n, by simpa using hs⟩
  · rcases q with q | ⟨o, its, n, hk, hc, hd, hs, hz, r⟩
    · obtain ⟨z, its, n, r, e⟩ := q.ok ok
      exact ⟨false, its, r, by rw [← r.length]; exact z, ⟨_, n, e, rfl, rfl, rfl⟩⟩
    · exact ⟨false, its.toList, r, by simpa using hz, ⟨o, n, kin a o hk, hc, hd, by simpa using hs⟩⟩
theorem TyG.seq {g : Heap} {b : Bool} {a : Addr} {its : List Value} (q : SeqG g b a its) : TyG g (.ref a) (if b = true then "tuple" else "list") := by
  cases b with
  | true => exact .tup q
  | false => exact .lst q

section
variable {P : Program} {w : World} {K : PySem.W.Frag} {mg : Str → Option Value} {base : Heap} {A : Around} {env : Env} {g : Heap}
/-- isinstance(x, T) -/
theorem ev_isi {p q pos : Pos} {e : Expr} {n : Str} {T t : String} {x : V} {b : Bool} (F : FrP K mg base A env g) (hg : env.kindOf "isinstance" = some .globalImplicit) (hm : mg "isinstance" = none) (he : EV P w A env g e x) (ty : TyG g x t)
    (hg2 : env.kindOf n = some .globalImplicit) (hm2 : mg n = none) (hv : bootBuiltins n = some (.type T)) (kb : kitB t T = some b) (hn : n ≠ "__name__" := by decide) (hd : (n == ("__debug__" : Str)) = false := by decide)
    (h1 : starEach [e, .Name n q] env = (false, eval e env) :: starEach [.Name n q] env := by rfl) (h2 : starEach [.Name n q] env = (false, eval (.Name n q) env) :: starEach [] env := by rfl)
    (hpl : (backTo pos (starEach [.Name n q] env)).any (·.1) = false := by rfl) (hvi : bootBuiltins "isinstance" = some (.builtin "isinstance") := by decide +kernel) : EV P w A env g (.Call (.Name "isinstance" p) [e, .Name n q] [] pos) (.bl b) := by
  refine ev_bltcall (vs := [x, .ty T]) F hg hm hvi (ea_cons he (ea_cons (ev_blt (v := .ty T) F hg2 hm2 hv rfl hn hd) ea_nil h2) h1) (fun s us Q E hx r hQ => ?_) (by decide) (by decide) h1 hpl
  obtain ⟨u1, u2, rfl, r1, r2⟩ := vals2 r
  cases (show u2 = Value.type T from r2)
  obtain ⟨Pp, Z, pp, hne⟩ := (ty.mono hx).kit (K := K) r1
  exact PySem.W.kia_one Z (F.mod.kin.keeps fun b o e => hx b o (F.ext b o e)) pp (kit_ty kb) hne fun tk => hQ _ s.heap tk rfl fun _ _ e => e
/-- isinstance(x, (T, ..)) -/
theorem ev_isiT {p pos tp : Pos} {k : Nat} {e : Expr} {es : List Expr} {Ts : List String} {t : String} {x : V} {b : Bool} (F : FrP K mg base A env g) (hg : env.kindOf "isinstance" = some .globalImplicit) (hm : mg "isinstance" = none) (he : EV P w A env g e x) (ty : TyG g x t)
    (ha : EA P w A env g es (Ts.map V.ty)) (kb : PySem.W.kitAny K (.type t) (Ts.map Value.type) = some b) (hl : Ts.length ≤ 1000)
    (h1 : starEach [e, .Tuple es k tp] env = (false, eval e env) :: starEach [.Tuple es k tp] env := by rfl) (h2 : starEach [.Tuple es k tp] env = (false, eval (.Tuple es k tp) env) :: starEach [] env := by rfl)
    (hpl : (backTo pos (starEach [.Tuple es k tp] env)).any (·.1) = false := by rfl) (hvi : bootBuiltins "isinstance" = some (.builtin "isinstance") := by decide +kernel) : EV P w A env g (.Call (.Name "isinstance" p) [e, .Tuple es k tp] [] pos) (.bl b) := fun s Q E hx hQ => by
  obtain ⟨mb, q1, q2⟩ := F.mod.blt
  have hb : Ext base s.heap := fun b o e => hx b o (F.ext b o e)
  refine wpAny_Call_Name_kw (Calls.Name_function_global F.kind hg (Calls.loadGlobal_builtin (by rw [F.glob]; exact F.mod.glob.keeps hb) hm (by rw [F.blt]; exact q1.keeps hb) ((q2 _ (by decide)).trans hvi) ?_) (by decide))
  refine PyProof.Rows.callWith_builtin1 ?_ h1 hpl
  rw [h1]
  show wpAny _ _ (spliced ((false, eval e env) :: backTo pos (starEach [.Tuple es k tp] env))) _ _ s
  refine Calls.spliced_cons (he s _ E hx fun u h' tk r hk => ?_)
  rw [h2]
  show wpAny _ _ (spliced ((false, eval (.Tuple es k tp) env) :: backTo pos (starEach [] env))) _ _ _
  refine Calls.spliced_cons (wpAny_Tuple_spliced (ha _ { s with heap := h', toks := tk } _ E (fun b o e => hk b o (hx b o e)) fun us h2 t2 r2 k2 => ⟨?_, Calls.spliced_nil ?_⟩))
  · rw [← r2.length, List.length_map]
    exact Nat.le_trans hl (by decide)
  · have e2 : us = Ts.map Value.type := by
      clear kb hl hQ ha
      induction Ts generalizing us with
      | nil => cases r2; rfl
      | cons T Ts ih =>
        cases r2 with
        | cons ra rb =>
          rw [show _ = Value.type T from ra, ih _ rb]
          rfl
    subst e2
    have kx : Ext s.heap (h2.push { cls := .type "tuple", data := .seq (Ts.map Value.type).toArray }) := fun b o e => Heap.get?_push_of_some _ (k2 b o (hk b o e))
    have gx : Ext g (h2.push { cls := .type "tuple", data := .seq (Ts.map Value.type).toArray }) := fun b o e => kx b o (hx b o e)
    obtain ⟨Pp, Z, pp, hne⟩ := (ty.mono gx).kit (K := K) r
    exact PySem.W.kia_tup Z (F.mod.kin.keeps fun b o e => gx b o (F.ext b o e)) pp (Heap.get?_push_size _ rfl) kb hne fun tk3 => hQ _ _ tk3 rfl kx
/-- len(x) of a tuple or a list -/
theorem ev_len {p pos : Pos} {e : Expr} {a : Addr} {bb : Bool} {its : List Value} (F : FrP K mg base A env g) (hg : env.kindOf "len" = some .globalImplicit) (hm : mg "len" = none) (he : EV P w A env g e (.ref a)) (sq : SeqG g bb a its)
    (h1 : starEach [e] env = (false, eval e env) :: starEach [] env := by rfl) (hpl : (backTo pos (starEach [] env)).any (·.1) = false := by rfl) : EV P w A env g (.Call (.Name "len" p) [e] [] pos) (.int its.length) := by
  refine ev_bltcall (vs := [.ref a]) F hg hm boot_len (ea_cons he ea_nil h1) (fun s us Q E hx r hQ => ?_) (by decide) (by decide) h1 hpl
  obtain ⟨u, rfl, r1⟩ := vals1 r
  cases (show u = Value.ref a from r1)
  have hl := line63
  have hz := (sq.mono hx).1
  have hsz : its.toArray.size = its.length := by simp
  have fin : ∀ t1 t2, Q (.int its.length t1) { s with toks := t2 } := fun t1 t2 => hQ _ s.heap t2 ⟨_, rfl⟩ fun _ _ e => e
  cases bb with
  | true => exact len_tuple (show IsTup s.heap a its.toArray from (sq.mono hx).2) (by rw [hsz]; omega) (by rw [hsz]; exact fin _ _)
  | false => exact Calls.call_len_list (show PlainL s.heap a its.toArray from (sq.mono hx).2).isList (by rw [hsz]; omega) (by rw [hsz]; exact fin _ _)
/-- x[i], i written -/
theorem ev_ix {pos : Pos} {e ie : Expr} {a : Addr} {bb : Bool} {its : List Value} {j : Nat} {u : Value} {v : V} (F : FrP K mg base A env g) (he : EV P w A env g e (.ref a)) (hi : EV P w A env g ie (.int j)) (sq : SeqG g bb a its) (hj : its[j]? = some u) (r : RelV v u) (hs : PlainIx ie := by exact fun _ _ => rfl) :
    EV P w A env g (.Subscript e ie pos) v := fun s Q E hx hQ => by
  refine Subscript_ (he s _ E hx fun o h' tk ro hk => hi { s with heap := h', toks := tk } _ E (fun b o e => hk b o (hx b o e)) fun iv h2 t2 ri k2 => ?_)
  cases (show o = Value.ref a from ro)
  obtain ⟨t, rfl⟩ := (show ∃ t, iv = Value.int j t from ri)
  have gx : Ext g h2 := fun b o e => k2 b o (hk b o (hx b o e))
  have lt : j < its.length := (List.getElem?_eq_some_iff.mp hj).1
  have hn := line63
  have hz := sq.1
  have fin : Q u { s with heap := h2, toks := t2 } := hQ u h2 t2 r fun b o e => k2 b o (hk b o e)
  have ej : its.toArray[j]? = some u := by simpa using hj
  cases bb with
  | true =>
    have p : IsTup h2 a its.toArray := (sq.mono gx).2
    exact subscriptTail_builtinR (x := u) p.typeIs slot_tuple_getitem.lookup
      (PyProof.Rows.getItem_tuple (j := j) (Q := fun r s' => r = u ∧ Q r s') p (by omega) (by omega) (seqIndex_of (by omega) (by simpa using lt)) ej ⟨rfl, fin⟩) (hs _ _)
  | false =>
    have p : PlainL h2 a its.toArray := (sq.mono gx).2
    exact item_listR p.isList (by omega) (by omega) (by simpa using ej) fin (hs _ _)
end

/-- a pure def as a promise of the layer -/
def spPure (P : Program) (w : World) (base : Heap) (ps : List Str) (sp : List V → Heap → V → Prop) : Sp := fun vs H Q _ => vs.length = ps.length ∧ ∃ v, (∀ h, HOk P w H h → Ext base h → sp vs h v) ∧ Q v H
theorem PF.ok {P : Program} {w : World} {K : PySem.W.Frag} {mg : Str → Option Value} {base : Heap} {k : Nat} {f : Addr} {fd : FuncData} {ps : List Str} {sp : List V → Heap → V → Prop} (G : PF P w K mg base k f fd ps sp) :
    FnOk P w K mg base CX0 k f fd ps (spPure P w base ps sp) := by
  refine ⟨fun vs H Q E h => h.1, fun A outer s H args us vs Q E hr e0 hb rv h => ?_⟩
  obtain ⟨hl, v, hv, hQ⟩ := h
  have hx : Ext base s.heap := fun b o e => (e0.bs b o e).1
  refine G.run A s args us vs v _ hr hx hb rv hl (hv _ e0.hok hx) fun u h' tk r hk => ?_
  exact ⟨v, H, rfl, e0.bare, Un.kept hk, e0.hok.kept hk, r, hQ⟩
end Pu
/-! shapes by numbers alone -/
namespace Sh
def counts (k m : Nat) : List Nat :=
  if h : k < m ∧ 2 ≤ k then (k - (m - k) % 2) :: counts k ((m - (k - (m - k) % 2)) / 2) else if 0 < m then [m] else []
termination_by m
decreasing_by omega
def tot : List Nat → Nat → Nat
  | [], _ => 0
  | c :: cs, s => tot cs (2 * s) + s * c
def sh (f : Nat) : List Nat → Nat → List (Nat × Nat)
  | [], _ => []
  | c :: cs, s => sh f cs (2 * s) ++ (List.range c).map fun j => (f + tot cs (2 * s) + s * j, s)
/-- the shape of rows f up to l -/
def shp (k f l : Nat) : List (Nat × Nat) := sh f (counts k (l - f)) 1
inductive Val (k : Nat) : List Nat → Prop
  | one {c : Nat} (h1 : 1 ≤ c) (h2 : c ≤ k) : Val k [c]
  | more {c d : Nat} {cs : List Nat} (h : c = k ∨ c + 1 = k) (r : Val k (d :: cs)) : Val k (c :: d :: cs)
theorem tot_scale : ∀ (cs : List Nat) (s : Nat), tot cs s = s * tot cs 1
  | [], s => rfl
  | c :: cs, s => by
    show tot cs (2 * s) + s * c = s * (tot cs (2 * 1) + 1 * c)
    rw [tot_scale cs (2 * s), tot_scale cs (2 * 1), Nat.mul_add, Nat.one_mul, ← Nat.mul_assoc, ← Nat.mul_assoc, Nat.mul_one, Nat.mul_comm 2 s]
theorem tot_cons (c : Nat) (cs : List Nat) : tot (c :: cs) 1 = 2 * tot cs 1 + c := by
  show tot cs (2 * 1) + 1 * c = _
  rw [tot_scale cs (2 * 1)]
  omega
theorem tot_pos {k : Nat} {cs : List Nat} (h : Val k cs) (_ : 2 ≤ k) : 0 < tot cs 1 := by
  induction h with
  | one h1 h2 => rw [tot_cons]; omega
  | more h r ih => rw [tot_cons]; omega
theorem counts_big {k m : Nat} (h : k < m) (hk : 2 ≤ k) : counts k m = (k - (m - k) % 2) :: counts k ((m - (k - (m - k) % 2)) / 2) := by
  rw [counts, dif_pos ⟨h, hk⟩]
theorem counts_small {k m : Nat} (h : ¬ k < m) : counts k m = if 0 < m then [m] else [] := by
  rw [counts, dif_neg fun z => h z.1]
theorem counts_zero (k : Nat) : counts k 0 = [] := by rw [counts_small (by omega)]; rfl
theorem counts_tot {k : Nat} (hk : 2 ≤ k) : ∀ m, tot (counts k m) 1 = m := by
  intro m
  induction m using Nat.strongRecOn with
  | ind m ih =>
    by_cases h : k < m
    · rw [counts_big h hk, tot_cons, ih _ (by omega)]
      omega
    · rw [counts_small h]
      by_cases h0 : 0 < m
      · rw [if_pos h0, tot_cons]
        show 2 * 0 + m = m
        omega
      · rw [if_neg h0]
        show 0 = m
        omega
theorem counts_val {k : Nat} (hk : 2 ≤ k) : ∀ m, 0 < m → Val k (counts k m) := by
  intro m
  induction m using Nat.strongRecOn with
  | ind m ih =>
    intro h0
    by_cases h : k < m
    · rw [counts_big h hk]
      have q := ih ((m - (k - (m - k) % 2)) / 2) (by omega) (by omega)
      generalize counts k ((m - (k - (m - k) % 2)) / 2) = cs at q
      cases q with
      | one a b => exact .more (by omega) (.one a b)
      | more a b => exact .more (by omega) (.more a b)
    · rw [counts_small h, if_pos h0]
      exact .one h0 (by omega)
theorem uniq {k : Nat} {cs : List Nat} (hk : 2 ≤ k) (h : Val k cs) : counts k (tot cs 1) = cs := by
  induction h with
  | @one c h1 h2 =>
    have e : tot [c] 1 = c := by rw [tot_cons]; show 2 * 0 + c = c; omega
    rw [e, counts_small (by omega), if_pos (show 0 < c from h1)]
  | @more c d cs h r ih =>
    have p := tot_pos r hk
    rw [tot_cons, counts_big (by omega) hk]
    have e1 : k - (2 * tot (d :: cs) 1 + c - k) % 2 = c := by omega
    rw [e1]
    have e2 : (2 * tot (d :: cs) 1 + c - c) / 2 = tot (d :: cs) 1 := by omega
    rw [e2, ih]
theorem val_ne {k : Nat} {cs : List Nat} (h : Val k cs) : cs ≠ [] := by
  cases h <;> simp
/-- the spans from some on are the shape from their first row on -/
theorem suffix {k : Nat} : ∀ (cs : List Nat) (s f j : Nat), Val k cs → ∃ cs' f', (cs' = [] ∨ Val k cs') ∧ (sh f cs s).drop j = sh f' cs' s ∧ f' + tot cs' s = f + tot cs s := by
  intro cs
  induction cs with
  | nil => intro s f j h; cases h
  | cons c cs ih =>
    intro s f j h
    -- within the block of the least size
    have blk : ∀ i, 1 ≤ c → (cs = [] ∨ Val k cs) → c ≤ k → ∃ cs' f', (cs' = [] ∨ Val k cs') ∧ ((List.range c).map fun j => (f + tot cs (2 * s) + s * j, s)).drop i = sh f' cs' s ∧ f' + tot cs' s = f + tot (c :: cs) s := by
      intro i h1 _ h2
      by_cases hi : i < c
      · refine ⟨[c - i], f + tot cs (2 * s) + s * i, .inr (.one (by omega) (by omega)), ?_, ?_⟩
        · show _ = [] ++ _
          rw [List.nil_append]
          apply List.ext_getElem
          · simp
          · intro n h1 h2
            simp only [List.getElem_drop, List.getElem_map, List.getElem_range]
            show (f + tot cs (2 * s) + s * (i + n), s) = (f + tot cs (2 * s) + s * i + 0 + s * n, s)
            rw [Nat.mul_add]
            simp only [Prod.mk.injEq, and_true]
            omega
        · show f + tot cs (2 * s) + s * i + (0 + s * (c - i)) = f + (tot cs (2 * s) + s * c)
          have : s * i + s * (c - i) = s * c := by rw [← Nat.mul_add]; congr 1; omega
          omega
      · refine ⟨[], f + tot (c :: cs) s, .inl rfl, ?_, rfl⟩
        rw [List.drop_of_length_le (by simp; omega)]
        rfl
    cases h with
    | one h1 h2 =>
      obtain ⟨cs', f', a, b, e⟩ := blk j h1 (.inl rfl) h2
      exact ⟨cs', f', a, by simpa [sh] using b, e⟩
    | @more _ d ds hc r =>
      by_cases hj : j ≤ (sh f (d :: ds) (2 * s)).length
      · by_cases hj2 : j < (sh f (d :: ds) (2 * s)).length
        · obtain ⟨cs', f', a, b, e⟩ := ih (2 * s) f j r
          have ne : cs' ≠ [] := fun z => by
            subst z
            have q : ((sh f (d :: ds) (2 * s)).drop j).length = 0 := by rw [b]; rfl
            rw [List.length_drop] at q
            omega
          have v : Val k cs' := a.resolve_left ne
          refine ⟨c :: cs', f', .inr ?_, ?_, ?_⟩
          · cases v with
            | one p q => exact .more hc (.one p q)
            | more p q => exact .more hc (.more p q)
          · show ((sh f (d :: ds) (2 * s)) ++ _).drop j = sh f' cs' (2 * s) ++ _
            rw [List.drop_append_of_le_length hj, b, e]
          · show f' + (tot cs' (2 * s) + s * c) = f + (tot (d :: ds) (2 * s) + s * c)
            omega
        · have hj3 : j = (sh f (d :: ds) (2 * s)).length := by omega
          by_cases c0 : c = 0
          · refine ⟨[], f + tot (c :: d :: ds) s, .inl rfl, ?_, rfl⟩
            rw [hj3, c0]
            simp [sh]
          · obtain ⟨cs', f', a, b, e⟩ := blk 0 (by omega) (.inr r) (by omega)
            refine ⟨cs', f', a, ?_, e⟩
            show ((sh f (d :: ds) (2 * s)) ++ _).drop j = _
            rw [hj3, List.drop_left]
            simpa using b
      · by_cases c0 : c = 0
        · refine ⟨[], f + tot (c :: d :: ds) s, .inl rfl, ?_, rfl⟩
          show ((sh f (d :: ds) (2 * s)) ++ _).drop j = _
          rw [List.drop_of_length_le (by rw [c0, List.length_append]; simp; omega)]
          rfl
        · obtain ⟨cs', f', a, b, e⟩ := blk (j - (sh f (d :: ds) (2 * s)).length) (by omega) (.inr r) (by omega)
          refine ⟨cs', f', a, ?_, e⟩
          show ((sh f (d :: ds) (2 * s)) ++ _).drop j = _
          rw [List.drop_append, List.drop_of_length_le (show (sh f (d :: ds) (2 * s)).length ≤ j by omega), List.nil_append]
          exact b

/-! ### within, in order -/
theorem sh_mem : ∀ (cs : List Nat) (s f : Nat) (p : Nat × Nat), p ∈ sh f cs s → f ≤ p.1 ∧ p.1 + p.2 ≤ f + tot cs s ∧ s ≤ p.2
  | [], _, _, _, h => by cases h
  | c :: cs, s, f, p, h => by
    rcases List.mem_append.mp h with h | h
    · obtain ⟨a, b, e⟩ := sh_mem cs (2 * s) f p h
      refine ⟨a, ?_, by omega⟩
      show p.1 + p.2 ≤ f + (tot cs (2 * s) + s * c)
      omega
    · obtain ⟨j, hj, rfl⟩ := List.mem_map.mp h
      have hj2 := List.mem_range.mp hj
      have q : s * (j + 1) ≤ s * c := Nat.mul_le_mul_left s hj2
      rw [Nat.mul_succ] at q
      refine ⟨?_, ?_, Nat.le_refl _⟩
      · show f ≤ f + tot cs (2 * s) + s * j
        omega
      · show f + tot cs (2 * s) + s * j + s ≤ f + (tot cs (2 * s) + s * c)
        omega
theorem sh_pair : ∀ (cs : List Nat) (s f : Nat), (sh f cs s).Pairwise fun a b => a.1 + a.2 ≤ b.1
  | [], _, _ => .nil
  | c :: cs, s, f => by
    refine List.pairwise_append.mpr ⟨sh_pair cs (2 * s) f, ?_, fun a ha b hb => ?_⟩
    · rw [List.pairwise_map]
      refine List.Pairwise.imp ?_ (List.pairwise_lt_range (n := c))
      intro i j h
      have q : s * (i + 1) ≤ s * j := Nat.mul_le_mul_left s h
      rw [Nat.mul_succ] at q
      show f + tot cs (2 * s) + s * i + s ≤ f + tot cs (2 * s) + s * j
      omega
    · have h1 := (sh_mem cs (2 * s) f a ha).2.1
      obtain ⟨j, _, rfl⟩ := List.mem_map.mp hb
      show a.1 + a.2 ≤ f + tot cs (2 * s) + s * j
      omega
/-- what does not lie below is what stands behind some spans -/
theorem filter_drop (b : Nat) : ∀ L : List (Nat × Nat), (L.Pairwise fun a b => a.1 + a.2 ≤ b.1) → ∃ j, L.filter (fun p => decide (b < p.1 + p.2)) = L.drop j
  | [], _ => ⟨0, rfl⟩
  | p :: L, h => by
    obtain ⟨h1, h2⟩ := List.pairwise_cons.mp h
    by_cases hp : b < p.1 + p.2
    · refine ⟨0, ?_⟩
      rw [List.drop_zero, List.filter_eq_self]
      intro q hq
      rcases List.mem_cons.mp hq with e | hq
      · rw [e]; exact decide_eq_true hp
      · have := h1 q hq
        exact decide_eq_true (by omega)
    · obtain ⟨j, hj⟩ := filter_drop b L h2
      refine ⟨j + 1, ?_⟩
      rw [List.filter_cons, if_neg (by simpa using hp), hj]
      rfl
/-- the first row of a shape -/
theorem sh_head {k : Nat} : ∀ {cs : List Nat} (_ : Val k cs) (_ : 2 ≤ k) (s f : Nat), ∃ m r, sh f cs s = (f, m) :: r
  | _, .one (c := c) h1 h2, _, s, f => by
    obtain ⟨d, rfl⟩ : ∃ d, c = d + 1 := ⟨c - 1, by omega⟩
    refine ⟨s, (List.range d).map fun j => (f + s * (j + 1), s), ?_⟩
    show [] ++ (List.range (d + 1)).map _ = _
    rw [List.nil_append, List.range_succ_eq_map, List.map_cons, List.map_map]
    rfl
  | _, .more (c := c) (d := d) (cs := cs) h r, hk, s, f => by
    obtain ⟨m, q, e⟩ := sh_head r hk (2 * s) f
    refine ⟨m, q ++ (List.range c).map fun j => (f + tot (d :: cs) (2 * s) + s * j, s), ?_⟩
    show sh f (d :: cs) (2 * s) ++ _ = _
    rw [e]
    rfl
def firstOf (L : List (Nat × Nat)) (l : Nat) : Nat := match L with
  | [] => l
  | p :: _ => p.1
theorem firstOf_sh {k f l : Nat} (hk : 2 ≤ k) (h : f ≤ l) : firstOf (shp k f l) l = f := by
  unfold shp
  by_cases e : l - f = 0
  · rw [e, counts_zero]
    show l = f
    omega
  · obtain ⟨m, r, q⟩ := sh_head (counts_val hk (l - f) (by omega)) hk 1 f
    rw [q]
    rfl
def gone (b : Nat) (L : List (Nat × Nat)) : List (Nat × Nat) := L.filter fun p => decide (b < p.1 + p.2)
/-- letting go leaves the shape of the row that is then the first -/
theorem gone_shp {k f l b : Nat} (hk : 2 ≤ k) (h : f ≤ l) : firstOf (gone b (shp k f l)) l ≤ l ∧ gone b (shp k f l) = shp k (firstOf (gone b (shp k f l)) l) l := by
  by_cases e : l - f = 0
  · have e2 : shp k f l = [] := by
      unfold shp
      rw [e, counts_zero]
      rfl
    rw [e2]
    refine ⟨Nat.le_refl _, ?_⟩
    show [] = shp k l l
    unfold shp
    rw [Nat.sub_self, counts_zero]
    rfl
  · have v := counts_val hk (l - f) (by omega)
    have t := counts_tot hk (l - f)
    obtain ⟨j, hj⟩ := filter_drop b (shp k f l) (sh_pair _ _ _)
    obtain ⟨cs', f', a, q, e2⟩ := suffix _ 1 f j v
    have g : gone b (shp k f l) = sh f' cs' 1 := hj.trans q
    rw [g]
    rw [t] at e2
    rcases a with a | a
    · subst a
      have e3 : f' = l := by
        have : f' + 0 = f + (l - f) := e2
        omega
      refine ⟨Nat.le_refl _, ?_⟩
      show [] = shp k l l
      unfold shp
      rw [Nat.sub_self, counts_zero]
      rfl
    · obtain ⟨m, r, q2⟩ := sh_head a hk 1 f'
      have e3 : firstOf (sh f' cs' 1) l = f' := by rw [q2]; rfl
      have e4 : l - f' = tot cs' 1 := by omega
      have p := tot_pos a hk
      rw [e3]
      refine ⟨by omega, ?_⟩
      unfold shp
      rw [e4, uniq hk a]
/-- how many of each size -/
theorem sizes_sh : ∀ (cs : List Nat) (s f : Nat), (sh f cs s).map (·.2) = (sh 0 cs s).map (·.2)
  | [], _, _ => rfl
  | c :: cs, s, f => by
    show (sh f cs (2 * s) ++ _).map _ = (sh 0 cs (2 * s) ++ _).map _
    rw [List.map_append, List.map_append, sizes_sh cs (2 * s) f, List.map_map, List.map_map]
    rfl
theorem size_in : ∀ (cs : List Nat) (s f : Nat) (p : Nat × Nat), p ∈ sh f cs s → ∃ i, i < cs.length ∧ p.2 = s * 2 ^ i
  | [], _, _, _, h => by cases h
  | c :: cs, s, f, p, h => by
    rcases List.mem_append.mp h with h | h
    · obtain ⟨i, hi, e⟩ := size_in cs (2 * s) f p h
      exact ⟨i + 1, by simpa using hi, by rw [e, Nat.pow_succ, Nat.mul_comm 2 s, Nat.mul_assoc, Nat.mul_comm 2]⟩
    · obtain ⟨j, _, rfl⟩ := List.mem_map.mp h
      exact ⟨0, by simp, by simp⟩
theorem count_sh : ∀ (cs : List Nat) (s f i : Nat), 0 < s → i < cs.length → ((sh f cs s).filter fun p => decide (p.2 = s * 2 ^ i)).length = cs.getD i 0
  | [], _, _, _, _, h => by simp at h
  | c :: cs, s, f, 0, hs, _ => by
    show ((sh f cs (2 * s) ++ (List.range c).map _).filter _).length = c
    rw [List.filter_append, List.length_append]
    have e1 : (sh f cs (2 * s)).filter (fun p => decide (p.2 = s * 2 ^ 0)) = [] := by
      rw [List.filter_eq_nil_iff]
      intro p hp
      have := (sh_mem cs (2 * s) f p hp).2.2
      simp
      omega
    have e2 : ((List.range c).map fun j => (f + tot cs (2 * s) + s * j, s)).filter (fun p => decide (p.2 = s * 2 ^ 0)) = (List.range c).map fun j => (f + tot cs (2 * s) + s * j, s) := by
      rw [List.filter_eq_self]
      intro p hp
      obtain ⟨j, _, rfl⟩ := List.mem_map.mp hp
      simp
    rw [e1, e2, List.length_map, List.length_range]
    simp
  | c :: cs, s, f, i + 1, hs, h => by
    show ((sh f cs (2 * s) ++ (List.range c).map _).filter _).length = cs.getD i 0
    rw [List.filter_append, List.length_append]
    have e2 : ((List.range c).map fun j => (f + tot cs (2 * s) + s * j, s)).filter (fun p => decide (p.2 = s * 2 ^ (i + 1))) = [] := by
      rw [List.filter_eq_nil_iff]
      intro p hp
      obtain ⟨j, _, rfl⟩ := List.mem_map.mp hp
      have : 1 < 2 ^ (i + 1) := Nat.one_lt_two_pow (by omega)
      have q : s * 1 < s * 2 ^ (i + 1) := Nat.mul_lt_mul_of_pos_left this hs
      simp
      omega
    have e3 : s * 2 ^ (i + 1) = 2 * s * 2 ^ i := by rw [Nat.pow_succ, Nat.mul_comm 2 s, Nat.mul_assoc, Nat.mul_comm 2]
    rw [e2, e3, count_sh cs (2 * s) f i (by omega) (by simpa using h)]
    rfl
theorem val_pos {k : Nat} {cs : List Nat} (h : Val k cs) (hk : 2 ≤ k) : ∀ i, i < cs.length → 1 ≤ cs.getD i 0 := by
  induction h with
  | one h1 h2 =>
    intro i hi
    have : i = 0 := by simpa using hi
    subst this
    exact h1
  | more h r ih =>
    intro i hi
    cases i with
    | zero => show 1 ≤ _; simp; omega
    | succ i => exact ih i (by simpa using hi)
theorem val_le {k : Nat} {cs : List Nat} (h : Val k cs) : ∀ i, cs.getD i 0 ≤ k := by
  induction h with
  | one h1 h2 =>
    intro i
    cases i with
    | zero => exact h2
    | succ i => simp
  | more h r ih =>
    intro i
    cases i with
    | zero => show _ ≤ _; simp; omega
    | succ i => exact ih i
theorem counts_le {k : Nat} (hk : 2 ≤ k) (m i : Nat) : (counts k m).getD i 0 ≤ k := by
  by_cases h : 0 < m
  · exact val_le (counts_val hk m h) i
  · have : m = 0 := by omega
    rw [this, counts_zero]
    simp
theorem tot_drop : ∀ (cs : List Nat) (i : Nat), tot (cs.drop i) (2 ^ i) ≤ tot cs 1
  | cs, 0 => Nat.le_refl _
  | [], i + 1 => by simp [tot]
  | c :: cs, i + 1 => by
    have h := tot_drop cs i
    rw [tot_cons]
    show tot (cs.drop i) (2 ^ (i + 1)) ≤ _
    rw [tot_scale] at h ⊢
    rw [Nat.pow_succ, Nat.mul_comm (2 ^ i) 2, Nat.mul_assoc]
    omega
theorem counts_len (k : Nat) (hk : 2 ≤ k) : ∀ m, (counts k m).length ≤ m := by
  intro m
  induction m using Nat.strongRecOn with
  | ind m ih =>
    by_cases h : k < m
    · rw [counts_big h hk, List.length_cons]
      have := ih ((m - (k - (m - k) % 2)) / 2) (by omega)
      omega
    · rw [counts_small h]
      by_cases h0 : 0 < m
      · rw [if_pos h0]; exact h0
      · rw [if_neg h0]; exact Nat.zero_le _
theorem sh_len : ∀ (cs : List Nat) (s f : Nat), 0 < s → (sh f cs s).length ≤ tot cs s
  | [], _, _, _ => Nat.le_refl _
  | c :: cs, s, f, hs => by
    have h := sh_len cs (2 * s) f (by omega)
    show (sh f cs (2 * s) ++ (List.range c).map _).length ≤ tot cs (2 * s) + s * c
    rw [List.length_append, List.length_map, List.length_range]
    have : 1 * c ≤ s * c := Nat.mul_le_mul_right c hs
    omega
theorem shp_len {k f l : Nat} (hk : 2 ≤ k) : (shp k f l).length ≤ l - f := by
  have h := sh_len (counts k (l - f)) 1 f (by omega)
  rw [counts_tot hk] at h
  exact h
theorem shp_mem {k f l : Nat} (hk : 2 ≤ k) (h : f ≤ l) {p : Nat × Nat} (hp : p ∈ shp k f l) : f ≤ p.1 ∧ p.1 + p.2 ≤ l ∧ 1 ≤ p.2 := by
  obtain ⟨a, b, c⟩ := sh_mem _ _ _ _ hp
  rw [counts_tot hk] at b
  exact ⟨a, by omega, c⟩
end Sh
set_option Elab.async false
set_option linter.all false
set_option maxRecDepth 100000
set_option maxHeartbeats 4000000
namespace Pu
open PySem PySem.Spec PyProof.Rows L2 GxR Evl
/-- a comprehension: acc by the turn and the heap -/
theorem lc_gen {J : It} {n : Nat} {G : Hp → Prop} {Y : Nat → Hp → V → Hp → Prop} (w : Walk J n G Y) {g : TG} {tt : TT} {te : TE} {vs : List Nat} {σ : L2.St} {H1 : Hp} {D : Addr} {Qd : Hp → Prop} (R : Nat → Hp → List V → Prop) (hn : n ≤ 40000) (hD : H1 D = none)
    (hU : ∀ i H xs ys acc, H D = some (.lst xs) → R i H acc → R i (upd H D (.lst ys)) acc) (h0 : R 0 (upd H1 D (.lst [])) []) (hG : ∀ H, Ex H1 H → G H)
    (turn : ∀ i x H H' acc, i < n → Ex H1 H → Y i H x H' → R i H acc → ∀ (Qy : V → Hp → Prop) (Qn : Hp → Prop), (∀ y H4, Ex H H4 → R (i + 1) H4 (acc ++ [y]) → Qy y H4) → (∀ H3, Ex H H3 → R (i + 1) H3 acc → Qn H3) →
      g x (wipe σ vs) H' fun σ2 H2 => wipe σ2 vs = wipe σ vs ∧ tt σ2 H2 fun b H3 => if b = true then te σ2 H3 Qy else Qn H3)
    (hd : ∀ H acc, Ex H1 H → H D = some (.lst acc) → R n H acc → Qd H) :
    ∃ W : Nat → Nat → Hp → Prop, (∃ m, W 0 m (upd H1 D (.lst []))) ∧ ∀ i m H, W i m H →
      (J.stop i H ∧ Qd H) ∨ (J.go i H ∧ ∃ Nx : Hp → Prop, (∀ H', Nx H' → ∃ m', m' < m ∧ W (i + 1) m' H') ∧ ∀ x H', J.yld i H x H' → g x (wipe σ vs) H' fun σ2 H2 => wipe σ2 vs = wipe σ vs ∧ tt σ2 H2 fun b H3 =>
        if b = true then te σ2 H3 fun y H4 => ∃ acc, H4 D = some (.lst acc) ∧ acc.length < sizeLine ∧ Nx (upd H4 D (.lst (acc ++ [y]))) else Nx H3) := by
  refine lc_it w (fun i H => Ex H1 H ∧ ∃ acc, H D = some (.lst acc) ∧ acc.length ≤ i ∧ R i H acc) ⟨Ex.new hD, [], upd_same, Nat.le_refl _, h0⟩ (fun i H _ p => hG H p.1) (fun i x H H' hi p y => ?_) fun H p => ?_
  · obtain ⟨ex, acc, hH, hl, hR⟩ := p
    refine turn i x H H' acc hi ex y hR _ _ (fun v H4 e4 r4 => ?_) fun H3 e3 r3 => ⟨ex.trans e3, acc, e3 D _ hH, Nat.le_succ_of_le hl, r3⟩
    have hz : acc.length < sizeLine := Nat.lt_of_le_of_lt (show acc.length ≤ 40000 by omega) (by decide)
    refine ⟨acc, e4 D _ hH, hz, Ex.mut (ex.trans e4) hD, acc ++ [v], upd_same, ?_, hU _ _ _ _ _ (e4 D _ hH) r4⟩
    rw [List.length_append, List.length_singleton]
    omega
  · obtain ⟨ex, acc, hH, _, hR⟩ := p
    exact hd H acc ex hH hR
theorem yes_then {te : TE} {σ : L2.St} {H : Hp} {Qy : VK} {Qn : Hp → Prop} (h : te σ H Qy) : tYes σ H fun b H3 => if b = true then te σ H3 Qy else Qn H3 := by
  show (if true = true then te σ H Qy else Qn H)
  rw [if_pos rfl]
  exact h
/-- pairs of numbers, each a tuple -/
def PrT (H : Hp) (L : List (Nat × Nat)) (xs : List V) : Prop := Paired (fun (p : Nat × Nat) (v : V) => ∃ b, v = .ref b ∧ H b = some (.tup [.int (p.1 : Nat), .int (p.2 : Nat)])) L xs
theorem PrT.ex {H H' : Hp} {L : List (Nat × Nat)} {xs : List V} (h : PrT H L xs) (e : Ex H H') : PrT H' L xs := Paired.mapP h fun p v ⟨b, h1, h2⟩ => ⟨b, h1, e _ _ h2⟩
theorem PrT.upd {H : Hp} {L : List (Nat × Nat)} {xs ys : List V} {D : Addr} {o : HO} (h : PrT H L xs) (hD : H D = some (.lst ys)) : PrT (upd H D o) L xs := Paired.mapP h fun p v ⟨b, h1, h2⟩ =>
  ⟨b, h1, by rw [upd_ne (ne_of h2 hD (by intro z; cases z))]; exact h2⟩
theorem Paired.app {α β : Type} {F : α → β → Prop} : ∀ {l : List α} {m : List β} {l' : List α} {m' : List β}, Paired F l m → Paired F l' m' → Paired F (l ++ l') (m ++ m')
  | _, _, _, _, .nil, s => s
  | _, _, _, _, .cons r t, s => .cons r (Paired.app t s)
theorem PrT.snoc {H : Hp} {L : List (Nat × Nat)} {xs : List V} {p : Nat × Nat} {b : Addr} (h : PrT H L xs) (e : H b = some (.tup [.int (p.1 : Nat), .int (p.2 : Nat)])) : PrT H (L ++ [p]) (xs ++ [.ref b]) := Paired.app h (.cons ⟨b, rfl, e⟩ .nil)
theorem Paired.at {α β : Type} {F : α → β → Prop} : ∀ {l : List α} {m : List β} {i : Nat} {y : β}, Paired F l m → m[i]? = some y → ∃ x, l[i]? = some x ∧ F x y
  | _, _, _, _, .nil, e => by simp at e
  | _, _, 0, _, .cons r _, e => by simp at e; subst e; exact ⟨_, rfl, r⟩
  | _, _, i + 1, y, .cons _ t, e => by
    obtain ⟨x, h1, h2⟩ := Paired.at (i := i) (y := y) t (by simpa using e)
    exact ⟨x, by simpa using h1, h2⟩
theorem PrT.len {H : Hp} {L : List (Nat × Nat)} {xs : List V} (h : PrT H L xs) : L.length = xs.length := Paired.length h
/-- the call of a def that hands back a new tuple -/
theorem eu_call {pre : List V → Hp → List V → Prop} {K : PySem.W.Frag} {σ : L2.St} {H : Hp} {ta : TA} {vs xs : List V} {E : XK} (h : EvA ta σ H vs) (hp : ∀ H1, Ex H H1 → pre (vs ++ []) H1 xs) :
    EvU (tCall (fun vs H Q _ => ∃ xs, pre vs H xs ∧ ∀ p H', H p = none → Ex H H' → H' p = some (.tup xs) → Q (.ref p) H') [] E ta) σ H xs := fun H1 e Q q =>
  h H1 e _ fun H2 e2 => ⟨xs, hp H2 (e.trans e2), fun p H3 hn e3 h3 => q p H3 (fresh_back e2 hn) (e2.trans e3) h3⟩
end Pu
namespace Pu
open PySem PySem.Spec PyProof.Rows L2 GxR Evl
/-- a tuple or a list -/
def SqE (K : PySem.W.Frag) (H : Hp) (a : Addr) (xs : List V) : Prop := SqT K H a xs ∨ SqL K H a xs
theorem SqE.ex {K : PySem.W.Frag} {H H' : Hp} {a : Addr} {xs : List V} (q : SqE K H a xs) (e : Ex H H') : SqE K H' a xs := q.elim (fun q => .inl (ex_t e q)) fun q => .inr (ex_l e q)
/-- pairs of numbers, each a tuple or a list -/
def PrIn (K : PySem.W.Frag) (H : Hp) (L : List (Nat × Nat)) (xs : List V) : Prop := Paired (fun (p : Nat × Nat) (v : V) => ∃ b, v = .ref b ∧ SqE K H b [.int (p.1 : Nat), .int (p.2 : Nat)]) L xs
theorem PrIn.ex {K : PySem.W.Frag} {H H' : Hp} {L : List (Nat × Nat)} {xs : List V} (h : PrIn K H L xs) (e : Ex H H') : PrIn K H' L xs := Paired.mapP h fun p v ⟨b, h1, h2⟩ => ⟨b, h1, h2.ex e⟩
theorem PrT.in {K : PySem.W.Frag} {H : Hp} {L : List (Nat × Nat)} {xs : List V} (h : PrT H L xs) : PrIn K H L xs := Paired.mapP h fun p v ⟨b, h1, h2⟩ => ⟨b, h1, .inl (SqT.of h2)⟩
def ShIn (K : PySem.W.Frag) (H : Hp) (L : List (Nat × Nat)) (v : V) : Prop := ∃ a xs, v = .ref a ∧ SqE K H a xs ∧ PrIn K H L xs
theorem ShIn.ex {K : PySem.W.Frag} {H H' : Hp} {L : List (Nat × Nat)} {v : V} (h : ShIn K H L v) (e : Ex H H') : ShIn K H' L v := by
  obtain ⟨a, xs, h1, h2, h3⟩ := h
  exact ⟨a, xs, h1, h2.ex e, h3.ex e⟩
theorem ShIn.of {K : PySem.W.Frag} {H : Hp} {L : List (Nat × Nat)} {p : Addr} {xs : List V} (h : H p = some (.tup xs)) (q : PrT H L xs) : ShIn K H L (.ref p) := ⟨p, xs, rfl, .inl (SqT.of h), q.in⟩
theorem test_then {tt : TT} {te : TE} {σ : L2.St} {H : Hp} {b : Bool} {Qy : VK} {Qn : Hp → Prop} (ht : EvT tt σ H b) (h1 : b = true → ∀ H1, Ex H H1 → te σ H1 Qy) (h2 : b = false → ∀ H1, Ex H H1 → Qn H1) :
    tt σ H fun b H3 => if b = true then te σ H3 Qy else Qn H3 := ht H (Ex.refl H) _ fun H1 e => by
  cases b with
  | true =>
    rw [if_pos rfl]
    exact h1 rfl H1 e
  | false =>
    rw [if_neg Bool.false_ne_true]
    exact h2 rfl H1 e
end Pu
namespace Pu
open PySem PySem.Spec PyProof.Rows L2 GxR Evl
/-- all kept but the table at T, which may have grown -/
def ExT (T : Addr) (H H' : Hp) : Prop := TabG H' T ∧ ∀ b o, b ≠ T → H b = some o → H' b = some o
theorem ExT.of_tab {T : Addr} {H H' : Hp} (t : Tabbed T H H') : ExT T H H' := ⟨t.1, fun b o hb e => by rw [t.2 b hb]; exact e⟩
theorem TabG.ex {T : Addr} {H H' : Hp} (t : TabG H T) (e : Ex H H') : TabG H' T := by
  obtain ⟨ps, h, r⟩ := t
  exact ⟨ps, e _ _ h, r⟩
theorem ExT.ex {T : Addr} {H H1 H2 : Hp} (a : ExT T H H1) (e : Ex H1 H2) : ExT T H H2 := ⟨TabG.ex a.1 e, fun b o hb h => e _ _ (a.2 b o hb h)⟩
theorem ExT.ex' {T : Addr} {H H1 H2 : Hp} (e : Ex H H1) (a : ExT T H1 H2) : ExT T H H2 := ⟨a.1, fun b o hb h => a.2 b o hb (e _ _ h)⟩
theorem ExT.refl {T : Addr} {H : Hp} (t : TabG H T) : ExT T H H := ⟨t, fun _ _ _ h => h⟩
theorem ExT.trans {T : Addr} {H H1 H2 : Hp} (a : ExT T H H1) (b : ExT T H1 H2) : ExT T H H2 := ⟨b.1, fun c o hc h => b.2 c o hc (a.2 c o hc h)⟩
theorem ExT.fresh {T : Addr} {H H' : Hp} {p : Addr} (t : TabG H T) (a : ExT T H H') (h : H' p = none) : H p = none := by
  cases e : H p with
  | none => rfl
  | some o =>
    by_cases z : p = T
    · obtain ⟨ps, q, _⟩ := a.1
      rw [z, q] at h
      cases h
    · rw [a.2 p o z e] at h
      cases h
theorem TabG.ne {T a : Addr} {H : Hp} {o : HO} (t : TabG H T) (h : H a = some o) (n : ∀ ps, o ≠ .tbl ps) : a ≠ T := fun z => by
  obtain ⟨ps, q, _⟩ := t
  rw [z, q] at h
  exact n ps (Option.some.inj h).symm
theorem rd_exT {T a : Addr} {H H' : Hp} {u : HO} (t : TabG H T) (e : ExT T H H') (n : ∀ ps, u ≠ .tbl ps) (h : Rd H a u) : Rd H' a u := by
  rcases h with h | ⟨o, h⟩
  · exact .inl (e.2 _ _ (TabG.ne t h n) h)
  · exact .inr ⟨o, e.2 _ _ (TabG.ne t h fun ps z => by cases z) h⟩
theorem SqT.exT {K : PySem.W.Frag} {T a : Addr} {H H' : Hp} {xs : List V} (t : TabG H T) (e : ExT T H H') (q : SqT K H a xs) : SqT K H' a xs := q.imp (rd_exT t e fun ps z => by cases z) id
theorem SqL.exT {K : PySem.W.Frag} {T a : Addr} {H H' : Hp} {xs : List V} (t : TabG H T) (e : ExT T H H') (q : SqL K H a xs) : SqL K H' a xs := q.imp (rd_exT t e fun ps z => by cases z) id
theorem SqE.exT {K : PySem.W.Frag} {T a : Addr} {H H' : Hp} {xs : List V} (t : TabG H T) (e : ExT T H H') (q : SqE K H a xs) : SqE K H' a xs := q.imp (SqT.exT t e) (SqL.exT t e)
theorem PrIn.exT {K : PySem.W.Frag} {T : Addr} {H H' : Hp} {L : List (Nat × Nat)} {xs : List V} (t : TabG H T) (e : ExT T H H') (h : PrIn K H L xs) : PrIn K H' L xs := Paired.mapP h fun p v ⟨b, h1, h2⟩ => ⟨b, h1, h2.exT t e⟩
theorem PrT.exT {T : Addr} {H H' : Hp} {L : List (Nat × Nat)} {xs : List V} (t : TabG H T) (e : ExT T H H') (h : PrT H L xs) : PrT H' L xs := Paired.mapP h fun p v ⟨b, h1, h2⟩ => ⟨b, h1, e.2 _ _ (TabG.ne t h2 fun ps z => by cases z) h2⟩
theorem ShIn.exT {K : PySem.W.Frag} {T : Addr} {H H' : Hp} {L : List (Nat × Nat)} {v : V} (t : TabG H T) (e : ExT T H H') (h : ShIn K H L v) : ShIn K H' L v := by
  obtain ⟨a, xs, h1, h2, h3⟩ := h
  exact ⟨a, xs, h1, h2.exT t e, h3.exT t e⟩
/-- pairs of numbers, each a tuple that is read -/
def PrS (K : PySem.W.Frag) (H : Hp) (L : List (Nat × Nat)) (xs : List V) : Prop := Paired (fun (p : Nat × Nat) (v : V) => ∃ b, v = .ref b ∧ SqT K H b [.int (p.1 : Nat), .int (p.2 : Nat)]) L xs
theorem PrS.ex {K : PySem.W.Frag} {H H' : Hp} {L : List (Nat × Nat)} {xs : List V} (h : PrS K H L xs) (e : Ex H H') : PrS K H' L xs := Paired.mapP h fun p v ⟨b, h1, h2⟩ => ⟨b, h1, ex_t e h2⟩
theorem SqT.upd {K : PySem.W.Frag} {H : Hp} {b D : Addr} {xs ys : List V} {o : HO} (h : SqT K H b xs) (hD : H D = some (.lst ys)) : SqT K (upd H D o) b xs := by
  rcases h with (h | ⟨u, h⟩) | h
  · exact .inl (.inl (by rw [upd_ne (ne_of h hD (by intro z; cases z))]; exact h))
  · exact .inl (.inr ⟨u, by rw [upd_ne (ne_of h hD (by intro z; cases z))]; exact h⟩)
  · exact .inr h
theorem PrS.upd {K : PySem.W.Frag} {H : Hp} {L : List (Nat × Nat)} {xs ys : List V} {D : Addr} {o : HO} (h : PrS K H L xs) (hD : H D = some (.lst ys)) : PrS K (upd H D o) L xs := Paired.mapP h fun p v ⟨b, h1, h2⟩ => ⟨b, h1, SqT.upd h2 hD⟩
theorem PrS.in {K : PySem.W.Frag} {H : Hp} {L : List (Nat × Nat)} {xs : List V} (h : PrS K H L xs) : PrIn K H L xs := Paired.mapP h fun p v ⟨b, h1, h2⟩ => ⟨b, h1, .inl h2⟩
theorem PrT.s {K : PySem.W.Frag} {H : Hp} {L : List (Nat × Nat)} {xs : List V} (h : PrT H L xs) : PrS K H L xs := Paired.mapP h fun p v ⟨b, h1, h2⟩ => ⟨b, h1, SqT.of h2⟩
/-- pairs as data -/
def dPair (p : Nat × Nat) : PyData := .tuple [.int (p.1 : Nat), .int (p.2 : Nat)]
def dShape (L : List (Nat × Nat)) : PyData := .tuple (L.map dPair)
theorem dpPairs {K : PySem.W.Frag} {H : Hp} : ∀ {L : List (Nat × Nat)} {xs : List V}, PrS K H L xs → DpAll K H xs (L.map dPair)
  | _, _, .nil => .nil
  | _, _, .cons ⟨b, e, h⟩ t => by
    subst e
    exact .cons (.tup h (.cons (.int _) (.cons (.int _) .nil))) (dpPairs t)
theorem dpShape {K : PySem.W.Frag} {H : Hp} {a : Addr} {L : List (Nat × Nat)} {xs : List V} (h : SqT K H a xs) (q : PrS K H L xs) : Dp K H (.ref a) (dShape L) := .tup h (dpPairs q)
theorem pairs_lay : ∀ L : List (Nat × Nat), PyData.canLayAll0 (L.map dPair) = true
  | [] => rfl
  | p :: L => by
    show ((PyData.canLay0 (.int (p.1 : Nat)) && (PyData.canLay0 (.int (p.2 : Nat)) && PyData.canLayAll0 [])) && PyData.canLayAll0 (L.map dPair)) = true
    rw [pairs_lay L]
    rfl
theorem pairs_depth : ∀ L : List (Nat × Nat), PyData.depthAll (L.map dPair) ≤ 1
  | [] => Nat.zero_le _
  | p :: L => by
    show max (PyData.depth (dPair p)) (PyData.depthAll (L.map dPair)) ≤ 1
    exact Nat.max_le.mpr ⟨Nat.le_refl 1, pairs_depth L⟩
theorem shape_shaped (L : List (Nat × Nat)) : SeqAt.shaped (dShape L) = true := by
  have h1 : PyData.canLay0 (dShape L) = true := pairs_lay L
  have h2 : PyData.depth (dShape L) ≤ 64 := by
    show PyData.depthAll (L.map dPair) + 1 ≤ 64
    have := pairs_depth L
    omega
  unfold SeqAt.shaped
  rw [h1, decide_eq_true h2]
  rfl
theorem pairs_eqv : ∀ L : List (Nat × Nat), PyData.eqvAll (L.map dPair) (L.map dPair) = true
  | [] => rfl
  | p :: L => by
    show (PyData.eqv (dPair p) (dPair p) && PyData.eqvAll (L.map dPair) (L.map dPair)) = true
    rw [pairs_eqv L]
    simp [dPair, PyData.eqv, PyData.eqvAll]
theorem shape_eqv (L : List (Nat × Nat)) : PyData.eqv (dShape L) (dShape L) = true := by
  show PyData.eqv (.tuple _) (.tuple _) = true
  rw [PyData.eqv]
  exact pairs_eqv L
/-- tuple(x) -/
def rTupleOf (K : PySem.W.Frag) (xs : List V) (H : Hp) (Q : VK) : Prop := ∃ p ys, xs = [.ref p] ∧ ((SqL K H p ys ∧ ∀ l, H l = none → Q (.ref l) (upd H l (.tup ys))) ∨ (SqT K H p ys ∧ Q (.ref p) H))
/-- a tracked tuple or list at a heap that keeps all but the table -/
theorem seq_at {P : Program} {w : World} {K : PySem.W.Frag} {H1 : Hp} {g : Heap} {T b : Addr} {xs : List V} (t : TabG H1 T) (ok : ∀ c ho, c ≠ T → H1 c = some ho → ObjOk P w H1 g c ho) (kin : K.In g) (q : SqE K H1 b xs) : ∃ (bb : Bool) (its : List Value), Vals xs its ∧ SeqG g bb b its := by
  have rd : ∀ {u : HO}, Rd H1 b u → (∀ ps, u ≠ .tbl ps) → ObjOk P w H1 g b u := fun {u} h n => by
    rcases h with h | ⟨o, h⟩
    · exact ok b _ (TabG.ne t h n) h
    · exact (ok b _ (TabG.ne t h fun ps z => by cases z) h).2
  rcases q with (q | ⟨o, its, n, hk, hc, hs, hz, r⟩) | (q | ⟨o, its, n, hk, hc, hd, hs, hz, r⟩)
  · obtain ⟨z, its, r, p⟩ := rd q fun ps z => by cases z
    exact ⟨true, its, r, by rw [← r.length]; exact z, p⟩
  · exact ⟨true, its.toList, r, by simpa using hz, o, kin b o hk, hc, n, by simpa using hs⟩
  · obtain ⟨z, its, n, r, e⟩ := rd q fun ps z => by cases z
    exact ⟨false, its, r, by rw [← r.length]; exact z, _, n, e, rfl, rfl, rfl⟩
  · exact ⟨false, its.toList, r, by simpa using hz, o, n, kin b o hk, hc, hd, by simpa using hs⟩
theorem GenS.of {env : Env} {sc : Scope} {x : Str} (h1 : sc.kind = .function) (h2 : sc.isCoroutine = false) (h3 : ∀ y ∈ sc.names, y.2 ≠ .cell) (h4 : sc.names.lookup (".0" : Str) = some NameKind.local) (h5 : sc.names.lookup x = some .local) (h6 : ∀ y ∈ sc.names, y.2 ≠ .free) :
    GenS env sc x := ⟨h1, h2, h3, h4, h5, fun y hy e => absurd e (h6 y hy)⟩
theorem PrS.snoc {K : PySem.W.Frag} {H : Hp} {L : List (Nat × Nat)} {xs : List V} {p : Nat × Nat} {b : Addr} (h : PrS K H L xs) (e : SqT K H b [.int (p.1 : Nat), .int (p.2 : Nat)]) : PrS K H (L ++ [p]) (xs ++ [.ref b]) := Paired.app h (.cons ⟨b, rfl, e⟩ .nil)
theorem q_ifOrF {t u : TT} {tu tw tz : TS} {D : Ends} {σ : L2.St} {H : Hp} (h1 : EvT t σ H false) (h2 : ∀ H1, Ex H H1 → u σ H1 fun b H2 => if b = true then tu { D with nx := tz D } σ H2 else tw { D with nx := tz D } σ H2) :
    tSeq (tIfS (tOr t u) tu tw) tz D σ H := h1 H (Ex.refl H) _ fun H1 e => by
  rw [if_neg (by decide)]
  exact h2 H1 e
end Pu
namespace Pu
open PySem PySem.Spec PyProof.Rows L2 GxR Evl
theorem rc_abs {i : Int} {H : Hp} : RC (fun xs H Q => ∃ i, xs = [V.int i] ∧ Q (.int (if i < 0 then -i else i)) H) [.int i] H (.int (if i < 0 then -i else i)) := fun H1 _ Q q => ⟨i, rfl, q H1 (Ex.refl H1)⟩
theorem rc_int {i : Int} {H : Hp} : RC (fun xs H Q => (∃ i, xs = [V.int i] ∧ Q (.int i) H) ∨ ∃ k, xs = [.bl k] ∧ Q (.int (if k then 1 else 0)) H) [.int i] H (.int i) := fun H1 _ Q q => .inl ⟨i, rfl, q H1 (Ex.refl H1)⟩
theorem rc_lenL {K : PySem.W.Frag} {H : Hp} {a : Addr} {xs : List V} (h : SqL K H a xs) : RC (fun ys H Q => ∃ x n, ys = [x] ∧ LenV K x H n ∧ Q (.int n) H) [.ref a] H (.int (xs.length : Int)) := fun H1 e Q q => ⟨_, _, rfl, .inl ⟨xs, ex_l e h, rfl⟩, q H1 (Ex.refl H1)⟩
def BoxAt (H : Hp) (p : Addr) : Prop := ∃ g s : Int, H p = some (.lst [.int g, .int s]) ∧ 0 ≤ g ∧ 0 ≤ s
theorem BoxAt.ex {H H' : Hp} {p : Addr} (h : BoxAt H p) (e : Ex H H') : BoxAt H' p := by
  obtain ⟨g, s, h1, h2⟩ := h
  exact ⟨g, s, e _ _ h1, h2⟩
def ExB (p : Addr) (H H' : Hp) : Prop := BoxAt H' p ∧ ∀ b o, b ≠ p → H b = some o → H' b = some o
def spBox (K : PySem.W.Frag) (ns : List Int) : Sp := fun vs H Q _ => ∃ (a : Addr) (k : Nat), vs = [.ref a, .int k] ∧ SqL K H a (ns.map V.int) ∧ ns.length ≤ 100 ∧ k ≤ 1000 ∧ ∀ p H', H p = none → Ex H H' → BoxAt H' p → Q (.ref p) H'
def spTake : Sp := fun vs H Q _ => ∃ (p : Addr) (m : Nat), vs = [.ref p, .int m] ∧ 1 ≤ m ∧ m ≤ 100000 ∧ BoxAt H p ∧ ∀ (d : Nat) H', d < m → ExB p H H' → Q (.int d) H'
def spPick : Sp := fun vs H Q _ => ∃ (p q : Addr) (ys : List V), vs = [.ref p, .ref q] ∧ BoxAt H p ∧ H q = some (.lst ys) ∧ q ≠ p ∧ 1 ≤ ys.length ∧ ys.length ≤ 1000 ∧ ∀ v H', v ∈ ys → ExB p H H' → Q v H'
theorem ExB.of {p : Addr} {H H2 H4 : Hp} {g s : Int} (e : Ex H H2) (e4 : Ex (upd H2 p (.lst [.int g, .int s])) H4) (hg : 0 ≤ g) (hs : 0 ≤ s) : ExB p H H4 :=
  ⟨⟨g, s, e4 _ _ upd_same, hg, hs⟩, fun b o hb h => e4 _ _ (by rw [upd_ne hb]; exact e _ _ h)⟩
theorem mod_nat (g : Int) {m : Nat} (h : 1 ≤ m) : ∃ d : Nat, g % (m : Int) = d ∧ d < m := by
  have h0 : 0 ≤ g % (m : Int) := Int.emod_nonneg _ (by omega)
  have h1 : g % (m : Int) < m := Int.emod_lt_of_pos _ (by omega)
  exact ⟨(g % (m : Int)).toNat, by omega, by omega⟩
theorem q_ifSet {t t' : TT} {te te' : TE} {tz : TS} {D : Ends} {σ : L2.St} {H : Hp} {b b' : Bool} {i : Nat} {c0 : Int} (Pc : Int → Prop) (h : EvT t σ H b) (h1 : b = true → ∃ c, Pc c ∧ Ev te σ H (.int c)) (h' : b = false → EvT t' σ H b') (h2 : b = false → b' = true → ∃ c, Pc c ∧ Ev te' σ H (.int c)) (h3 : Pc c0 ∧ σ.set i (some (.int c0)) = σ)
    (k : ∀ c H1, Pc c → Ex H H1 → tz D (σ.set i (some (.int c))) H1) : tSeq (tIfS t (tAsg te (gName i)) (tIfS t' (tAsg te' (gName i)) tNext)) tz D σ H := by
  refine s_if (D := { D with nx := tz D }) h (fun z H1 e1 => ?_) (fun z H1 e1 => ?_)
  · obtain ⟨c, hc, v⟩ := h1 z
    exact v H1 e1 _ fun H2 e2 => k c H2 hc (e1.trans e2)
  · refine h' z H1 e1 _ fun H2 e2 => ?_
    refine ite2 (fun y => ?_) fun _ => ?_
    · obtain ⟨c, hc, v⟩ := h2 z y
      exact v H2 (e1.trans e2) _ fun H3 e3 => k c H3 hc ((e1.trans e2).trans e3)
    · have q := k c0 H2 h3.1 (e1.trans e2)
      rw [h3.2] at q
      exact q
theorem lt_log {m : Nat} (h : m ≤ 100000) : (m : Int).natAbs.log2 < 9000 := by
  have z : m < 2 ^ 20 := Nat.lt_of_le_of_lt h (by decide)
  have y := PySem.Flt.log2_lt_of (by decide) (show (m : Int).natAbs < 2 ^ 20 by rw [Int.natAbs_natCast]; exact z)
  omega
theorem ev_int1 {ta : TE} {σ : L2.St} {H : Hp} {i : Int} (h : Ev ta σ H (.int i)) : Ev (tCB (fun xs H Q => (∃ i, xs = [V.int i] ∧ Q (.int i) H) ∨ ∃ k, xs = [.bl k] ∧ Q (.int (if k then 1 else 0)) H) (tCons ta tNil)) σ H (.int i) := ev_cb (Evl.ea_cons h Evl.ea_nil) rc_int
theorem ev_lenL {K : PySem.W.Frag} {ta : TE} {σ : L2.St} {H : Hp} {a : Addr} {xs : List V} (h : Ev ta σ H (.ref a)) (q : SqL K H a xs) : Ev (tCB (fun ys H Q => ∃ x n, ys = [x] ∧ LenV K x H n ∧ Q (.int n) H) (tCons ta tNil)) σ H (.int (xs.length : Int)) := ev_cb (Evl.ea_cons h Evl.ea_nil) (rc_lenL q)
end Pu
namespace Pu
open PySem PySem.Spec PyProof.Rows L2 GxR Evl
/-- list(x) -/
def rListOf (K : PySem.W.Frag) (xs : List V) (H : Hp) (Q : VK) : Prop := ∃ p ys, xs = [.ref p] ∧ (SqL K H p ys ∨ SqT K H p ys) ∧ ∀ l, H l = none → Q (.ref l) (upd H l (.lst ys))
/-- a statement told by what holds ahead of it and behind it -/
def Tr (X : Cx) (st : Stmt) (A B : L2.St → Hp → Prop) : Prop := ∃ t, PS X st t ∧ ∀ D σ H, A σ H → (∀ σ' H', B σ' H' → D.nx σ' H') → t D σ H
def Trs (X : Cx) (l : List Stmt) (A B : L2.St → Hp → Prop) : Prop := ∃ t, PSs X l t ∧ ∀ D σ H, A σ H → (∀ σ' H', B σ' H' → D.nx σ' H') → t D σ H
theorem Trs.cons {X : Cx} {st : Stmt} {l : List Stmt} {A B C : L2.St → Hp → Prop} (h : Tr X st A B) (k : Trs X l B C) : Trs X (st :: l) A C := by
  obtain ⟨t, h1, h2⟩ := h
  obtain ⟨u, k1, k2⟩ := k
  exact ⟨_, pss_cons h1 k1, fun D σ H a q => h2 { D with nx := u D } σ H a fun σ' H' b => k2 D σ' H' b q⟩
theorem Trs.one {X : Cx} {st : Stmt} {A B : L2.St → Hp → Prop} (h : Tr X st A B) : Trs X [st] A B := by
  obtain ⟨t, h1, h2⟩ := h
  exact ⟨_, pss_one h1, h2⟩
theorem Trs.pre {X : Cx} {l : List Stmt} {A A' B : L2.St → Hp → Prop} (h : Trs X l A B) (e : ∀ σ H, A' σ H → A σ H) : Trs X l A' B := by
  obtain ⟨t, h1, h2⟩ := h
  exact ⟨t, h1, fun D σ H a q => h2 D σ H (e σ H a) q⟩
/-- slots -/
theorem sl_ne {σ : L2.St} {i j : Nat} {v : Option V} {x : V} (h : σ[j]? = some (some x)) (n : i ≠ j) : (σ.set i v)[j]? = some (some x) := by rw [List.getElem?_set_ne n]; exact h
theorem sl_eq {σ : L2.St} {i : Nat} {v : V} (h : i < σ.length) : (σ.set i (some v))[i]? = some (some v) := List.getElem?_set_self h
/-- the arguments by their names, put in the told order -/
def perm {α : Type} (is : List Nat) (l : List α) : List α := if l.length = is.length then is.filterMap (fun i => l[i]?) else []
theorem filt_rel {zs : List V} {ws : List Value} (h : Vals zs ws) : ∀ is : List Nat, Vals (is.filterMap fun i => zs[i]?) (is.filterMap fun i => ws[i]?)
  | [] => .nil
  | i :: is => by
    rw [List.filterMap_cons, List.filterMap_cons]
    cases e : zs[i]? with
    | none =>
      have e2 : ws[i]? = none := by
        rw [List.getElem?_eq_none_iff] at e ⊢
        rw [← h.length]
        exact e
      rw [e2]
      exact filt_rel h is
    | some z =>
      obtain ⟨u, hu, r⟩ := h.get e
      rw [hu]
      exact .cons r (filt_rel h is)
theorem perm_rel {is : List Nat} {zs : List V} {ws : List Value} (h : Vals zs ws) : Vals (perm is zs) (perm is ws) := by
  unfold perm
  rw [h.length]
  split
  · exact filt_rel h is
  · exact .nil
theorem kwOk {K : PySem.W.Frag} {fd : FuncData} {ps ks : List Str} {is : List Nat} (h : ∀ ws : List Value, ws.length = is.length → bindArgs fd ⟨[], ks.zip ws⟩ = pure (ps.zip (perm is ws))) (hn : 0 < ps.length) : KwOk K fd ps ks (perm is) (perm is) := by
  refine ⟨fun s ws _ hl => ?_, perm_rel⟩
  refine .of_eq (h ws ?_)
  unfold perm at hl
  split at hl
  · assumption
  · rw [List.length_nil] at hl
    omega
/-- the script stays what it is as long as only p and T change -/
def Scr (K : PySem.W.Frag) (T p a : Addr) (ns : List Int) (H : Hp) : Prop := ∀ H', (∀ b o, b ≠ p → b ≠ T → H b = some o → H' b = some o) → SqL K H' a (ns.map V.int)
structure Hs (K : PySem.W.Frag) (T a : Addr) (ns : List Int) (p : Addr) (H : Hp) : Prop where
  tab : TabG H T
  box : BoxAt H p
  scr : Scr K T p a ns H
/-- a step that changes but the box and the table -/
structure Stp (T p : Addr) (H H' : Hp) : Prop where
  tab : TabG H' T
  box : BoxAt H' p
  kp : ∀ b o, b ≠ p → b ≠ T → H b = some o → H' b = some o
variable {K : PySem.W.Frag} {T a p : Addr} {ns : List Int} {H H' H2 : Hp}
theorem BoxAt.ne (h : BoxAt H p) (t : TabG H T) : p ≠ T := by
  obtain ⟨g, s, h1, _⟩ := h
  exact TabG.ne t h1 fun ps z => by cases z
theorem Hs.ex (h : Hs K T a ns p H) (e : Ex H H') : Stp T p H H' := ⟨TabG.ex h.tab e, h.box.ex e, fun b o _ _ q => e b o q⟩
theorem Hs.exT (h : Hs K T a ns p H) (e : ExT T H H') : Stp T p H H' := by
  refine ⟨e.1, ?_, fun b o _ n q => e.2 b o n q⟩
  obtain ⟨g, s, h1, h2⟩ := h.box
  exact ⟨g, s, e.2 _ _ (h.box.ne h.tab) h1, h2⟩
theorem Hs.exB (h : Hs K T a ns p H) (e : ExB p H H') : Stp T p H H' := by
  refine ⟨?_, e.1, fun b o n _ q => e.2 b o n q⟩
  obtain ⟨ps, h1, h2⟩ := h.tab
  exact ⟨ps, e.2 _ _ (fun z => h.box.ne h.tab z.symm) h1, h2⟩
theorem Hs.step (h : Hs K T a ns p H) (s : Stp T p H H') : Hs K T a ns p H' := ⟨s.tab, s.box, fun H'' q => h.scr H'' fun b o n m e => q b o n m (s.kp b o n m e)⟩
theorem Stp.trans (s : Stp T p H H') (u : Stp T p H' H2) : Stp T p H H2 := ⟨u.tab, u.box, fun b o n m e => u.kp b o n m (s.kp b o n m e)⟩
theorem Hs.scrL (h : Hs K T a ns p H) : SqL K H a (ns.map V.int) := h.scr H fun _ _ _ _ e => e
theorem Hs.ofNew (t : TabG H T) (s : SqL K H a (ns.map V.int)) (n : H p = none) (e : Ex H H') (b : BoxAt H' p) : Hs K T a ns p H' := by
  refine ⟨TabG.ex t e, b, fun H'' q => ?_⟩
  refine s.imp (fun s => ?_) id
  rcases s with s | ⟨o, s⟩
  · exact .inl (q _ _ (fun z => by rw [z, n] at s; cases s) (TabG.ne t s fun ps z => by cases z) (e _ _ s))
  · exact .inr ⟨o, q _ _ (fun z => by rw [z, n] at s; cases s) (TabG.ne t s fun ps z => by cases z) (e _ _ s)⟩
theorem Hs.renew {p' : Addr} (h : Hs K T a ns p H) (n : H p' = none) (e : Ex H H') (b : BoxAt H' p') : Hs K T a ns p' H' := Hs.ofNew h.tab h.scrL n e b
theorem Stp.tup (h : Hs K T a ns p H) (s : Stp T p H H') {b : Addr} {xs : List V} (e : H b = some (.tup xs)) : H' b = some (.tup xs) := by
  obtain ⟨g, s', h1, _⟩ := h.box
  exact s.kp _ _ (fun z => by rw [z, h1] at e; cases e) (TabG.ne h.tab e fun ps z => by cases z) e
theorem Stp.prT (h : Hs K T a ns p H) (s : Stp T p H H') {L : List (Nat × Nat)} {xs : List V} (q : PrT H L xs) : PrT H' L xs := Paired.mapP q fun _ _ ⟨b, h1, h2⟩ => ⟨b, h1, s.tup h h2⟩
theorem Stp.lst (h : Hs K T a ns p H) (s : Stp T p H H') {b : Addr} {xs : List V} (n : b ≠ p) (e : H b = some (.lst xs)) : H' b = some (.lst xs) := s.kp _ _ n (TabG.ne h.tab e fun ps z => by cases z) e
theorem Hs.fresh (h : Hs K T a ns p H) (s : Stp T p H H') {b : Addr} (e : H' b = none) : H b = none := by
  cases z : H b with
  | none => rfl
  | some o =>
    obtain ⟨g, s', h1, _⟩ := s.box
    obtain ⟨ps, h2, _⟩ := s.tab
    by_cases q : b = p
    · rw [q, h1] at e; cases e
    · by_cases r : b = T
      · rw [r, h2] at e; cases e
      · rw [s.kp b o q r z] at e; cases e
end Pu
namespace Pu
open PySem PySem.Spec PyProof.Rows L2 GxR Evl
/-- data that is small enough to be shown -/
structure Sm (n m : Nat) (d : PyData) : Prop where
  dp : PyData.depth d ≤ n
  bk : PyData.bulk d ≤ m
  lf : PyData.leavesShort 13 d = true
  sh : PyData.showable d = true
  nd : PyData.hasDict d = false
theorem Sm.none : Sm 0 0 .none := ⟨Nat.le_refl _, Nat.le_refl _, rfl, rfl, rfl⟩
theorem Sm.int {i : Nat} (h : i ≤ 1000000) : Sm 0 0 (.int (i : Int)) := by
  refine ⟨Nat.le_refl _, Nat.le_refl _, ?_, ?_, rfl⟩
  · show decide _ = true
    exact decide_eq_true (PyData.shown_int_le (by rw [Int.natAbs_natCast]; exact Nat.lt_of_le_of_lt h (by decide)))
  · show decide _ = true
    refine decide_eq_true ?_
    rw [Int.natAbs_natCast]
    exact Nat.lt_of_lt_of_le (PySem.Flt.log2_lt_of (by decide) (Nat.lt_of_le_of_lt h (by decide : 1000000 < 2 ^ 20))) (by decide)
theorem Sm.mono {n m n' m' : Nat} {d : PyData} (s : Sm n m d) (h : n ≤ n') (k : m ≤ m') : Sm n' m' d := ⟨Nat.le_trans s.dp h, Nat.le_trans s.bk k, s.lf, s.sh, s.nd⟩
theorem sm_all {n m : Nat} : ∀ {ds : List PyData}, (∀ d ∈ ds, Sm n m d) → PyData.depthAll ds ≤ n ∧ PyData.bulkAll ds ≤ ds.length * (m + 1) ∧ PyData.leavesShortAll 13 ds = true ∧ PyData.showableAll ds = true ∧ PyData.hasDictAll ds = false
  | [], _ => ⟨Nat.zero_le _, Nat.zero_le _, rfl, rfl, rfl⟩
  | d :: ds, h => by
    obtain ⟨h1, h2, h3, h4, h5⟩ := sm_all (ds := ds) fun x hx => h x (List.mem_cons_of_mem _ hx)
    have s := h d (List.mem_cons_self ..)
    refine ⟨?_, ?_, ?_, ?_, ?_⟩
    · show max (PyData.depth d) (PyData.depthAll ds) ≤ n
      exact Nat.max_le.mpr ⟨s.dp, h1⟩
    · show PyData.bulk d + 1 + PyData.bulkAll ds ≤ (ds.length + 1) * (m + 1)
      have := s.bk
      rw [Nat.add_mul]
      omega
    · show (PyData.leavesShort 13 d && PyData.leavesShortAll 13 ds) = true
      rw [s.lf, h3]
      rfl
    · show (PyData.showable d && PyData.showableAll ds) = true
      rw [s.sh, h4]
      rfl
    · show (PyData.hasDict d || PyData.hasDictAll ds) = false
      rw [s.nd, h5]
      rfl
theorem Sm.tup {n m c : Nat} {ds : List PyData} (h : ∀ d ∈ ds, Sm n m d) (hc : ds.length ≤ c) : Sm (n + 1) (c * (m + 1)) (.tuple ds) := by
  obtain ⟨h1, h2, h3, h4, h5⟩ := sm_all h
  exact ⟨Nat.succ_le_succ h1, Nat.le_trans h2 (Nat.mul_le_mul_right _ hc), h3, h4, h5⟩
theorem Sm.lst {n m c : Nat} {ds : List PyData} (h : ∀ d ∈ ds, Sm n m d) (hc : ds.length ≤ c) : Sm (n + 1) (c * (m + 1)) (.list ds) := by
  obtain ⟨h1, h2, h3, h4, h5⟩ := sm_all h
  exact ⟨Nat.succ_le_succ h1, Nat.le_trans h2 (Nat.mul_le_mul_right _ hc), h3, h4, h5⟩
theorem Sm.pair {p : Nat × Nat} (h : p.1 + p.2 ≤ 1000000) : Sm 1 2 (dPair p) := by
  refine Sm.tup (c := 2) (m := 0) (fun d hd => ?_) (Nat.le_refl _)
  rcases List.mem_cons.mp hd with z | hd
  · rw [z]; exact Sm.int (by omega)
  · rcases List.mem_cons.mp hd with z | hd
    · rw [z]; exact Sm.int (by omega)
    · cases hd
theorem Sm.shape {L : List (Nat × Nat)} (hl : L.length ≤ 1000) (h : ∀ p ∈ L, p.1 + p.2 ≤ 1000000) : Sm 2 3000 (dShape L) := by
  refine Sm.tup (c := 1000) (m := 2) (fun d hd => ?_) (by rw [List.length_map]; exact hl)
  obtain ⟨p, hp, rfl⟩ := List.mem_map.mp hd
  exact Sm.pair (h p hp)
theorem Sm.two {n m : Nat} {d e : PyData} (h : Sm n m d) (k : Sm n m e) : Sm (n + 1) (2 * (m + 1)) (.list [d, e]) := Sm.lst (fun x hx => by
  rcases List.mem_cons.mp hx with z | hx
  · rw [z]; exact h
  · rcases List.mem_cons.mp hx with z | hx
    · rw [z]; exact k
    · cases hx) (Nat.le_refl 2)
theorem Sm.d60 {n m : Nat} {d : PyData} (s : Sm n m d) (hn : n ≤ 60) : PyData.depth d ≤ 60 := Nat.le_trans s.dp hn
theorem Sm.len {n m : Nat} {d : PyData} (s : Sm n m d) (hm : m ≤ 1000000) : d.shown.length ≤ sizeLine := PyData.shown_fits_bulk (B := 13) (by decide) (by decide) s.lf (Nat.le_trans s.bk (Nat.le_trans hm (by decide)))
/-- repr of a list or a tuple that is small: a text -/
theorem rc_repr {K : PySem.W.Frag} {H : Hp} {v : V} {d : PyData} {n m : Nat} (h : Dp K H v d) (hd : isDisplay d = true) (s : Sm n m d) (hn : n ≤ 60) (hm : m ≤ 1000000) {Q : VK} (q : Q (.str d.shown) H) : rRepr K [v] H Q :=
  ⟨v, d, rfl, h, hd, s.sh, s.nd, Nat.le_trans s.dp hn, PyData.shown_fits_bulk (B := 13) (by decide) (by decide) s.lf (Nat.le_trans s.bk (Nat.le_trans hm (by decide))), q⟩
end Pu
set_option Elab.async false
set_option linter.all false
set_option maxRecDepth 100000
set_option maxHeartbeats 4000000
namespace K13
open PySem PySem.Spec PyProof.Rows L2 GxR Pu
def topS (i : Nat) : Stmt := PySem.Challenge.pw_farstory_k13_stores_that_are_none.main.body.getD i (.Pass ⟨0, 0, 0, 0⟩)
abbrev sIsInteger : Stmt := topS 4
abbrev sIsNumber : Stmt := topS 5
abbrev sIsSequence : Stmt := topS 6
abbrev sIsOfParts : Stmt := topS 7
abbrev sNeedNumber : Stmt := topS 8
abbrev sIsKeep : Stmt := topS 10
abbrev sNeedKeep : Stmt := topS 11
abbrev sCountsOf : Stmt := topS 12
abbrev sShapeFrom : Stmt := topS 13
abbrev sIsStretch : Stmt := topS 14
abbrev sIsShape : Stmt := topS 15
abbrev sFirstOf : Stmt := topS 16
abbrev sIsReading : Stmt := topS 19
abbrev sIsSize : Stmt := topS 20
abbrev sSumsWith : Stmt := topS 21
abbrev sEndsOf : Stmt := topS 22
abbrev sIsSpan : Stmt := topS 23
abbrev sRowSpan : Stmt := topS 24
abbrev sBehind : Stmt := topS 25
abbrev sSpanOfAll : Stmt := topS 26
abbrev sJoin : Stmt := topS 27
abbrev sAreSpans : Stmt := topS 28
abbrev sEmptyStore : Stmt := topS 30
abbrev sShapeOf : Stmt := topS 31
abbrev sIsStore : Stmt := topS 32
abbrev sSettled : Stmt := topS 33
abbrev sLay : Stmt := topS 34
abbrev sLetGo : Stmt := topS 35
abbrev sSpanWith : Stmt := topS 36
abbrev sLaidAll : Stmt := topS 37
abbrev sBox : Stmt := topS 39
abbrev sTake : Stmt := topS 40
abbrev sPick : Stmt := topS 41
abbrev sLRefused : Stmt := topS 42
abbrev sLBent : Stmt := topS 43
abbrev sLaw : Stmt := topS 44
theorem scIsInteger : FnScope ["value"] ["value"] (defScope sIsInteger) := ⟨rfl, rfl, rfl, by decide +kernel, rfl, by decide +kernel, by decide +kernel⟩
theorem scIsNumber : FnScope ["value"] ["value"] (defScope sIsNumber) := ⟨rfl, rfl, rfl, by decide +kernel, rfl, by decide +kernel, by decide +kernel⟩
theorem scIsSequence : FnScope ["value"] ["value"] (defScope sIsSequence) := ⟨rfl, rfl, rfl, by decide +kernel, rfl, by decide +kernel, by decide +kernel⟩
theorem scIsOfParts : FnScope ["value", "many"] ["value", "many"] (defScope sIsOfParts) := ⟨rfl, rfl, rfl, by decide +kernel, rfl, by decide +kernel, by decide +kernel⟩
theorem scIsStretch : FnScope ["value"] ["value"] (defScope sIsStretch) := ⟨rfl, rfl, rfl, by decide +kernel, rfl, by decide +kernel, by decide +kernel⟩

/-- the names of the module that the defs read -/
structure Mg (mg : Str → Option Value) : Prop where
  isinstance : mg "isinstance" = none
  int : mg "int" = none
  bool : mg "bool" = none
  list : mg "list" = none
  tuple : mg "tuple" = none
  len : mg "len" = none
  range : mg "range" = none
  enumerate : mg "enumerate" = none
  reversed : mg "reversed" = none
  all : mg "all" = none
  abs : mg "abs" = none
  max : mg "max" = none
  min : mg "min" = none
  set : mg "set" = none
  repr : mg "repr" = none
  any : mg "any" = none
  zip : mg "zip" = none
  sum : mg "sum" = none
  sorted : mg "sorted" = none

def isNum : V → Bool
  | .int i => decide (i ≥ 0)
  | _ => false
def isSeq : String → Bool := fun t => t == "tuple" || t == "list"
def pInteger : List V → Heap → V → Prop := fun vs g v => ∃ x t, vs = [x] ∧ TyG g x t ∧ v = .bl (t == "int")
def pNumber : List V → Heap → V → Prop := fun vs g v => ∃ x t, vs = [x] ∧ TyG g x t ∧ v = .bl (isNum x)
def pSequence : List V → Heap → V → Prop := fun vs g v => ∃ x t, vs = [x] ∧ TyG g x t ∧ v = .bl (isSeq t)
/-- the value's parts, if it has some -/
inductive PartsG (g : Heap) : V → Option Nat → Prop
  | seq {b : Bool} {a : Addr} {its : List Value} (h : SeqG g b a its) : PartsG g (.ref a) (some its.length)
  | no {x : V} {t : String} (h : TyG g x t) (n : isSeq t = false) : PartsG g x none
def pOfParts : List V → Heap → V → Prop := fun vs g v => ∃ (x : V) (n : Option Nat) (m : Int), vs = [x, .int m] ∧ PartsG g x n ∧ v = .bl (match n with | some k => decide ((k : Int) = m) | none => false)
/-- what is_stretch finds -/
inductive StG (g : Heap) : V → Bool → Prop
  | two {b : Bool} {a : Addr} {u0 u1 : Value} {x y : V} {t s : String} (h : SeqG g b a [u0, u1]) (r : RelV x u0) (r' : RelV y u1) (tx : TyG g x t) (ty : TyG g y s) : StG g (.ref a) (isNum x && isNum y)
  | len {b : Bool} {a : Addr} {its : List Value} (h : SeqG g b a its) (n : its.length ≠ 2) : StG g (.ref a) false
  | no {x : V} {t : String} (h : TyG g x t) (n : isSeq t = false) : StG g x false
def pStretch : List V → Heap → V → Prop := fun vs g v => ∃ x b, vs = [x] ∧ StG g x b ∧ v = .bl b
theorem StG.mono {g h : Heap} {x : V} {b : Bool} (y : StG g x b) (e : Ext g h) : StG h x b := by
  cases y with
  | two q r r' a b => exact .two (q.mono e) r r' (a.mono e) (b.mono e)
  | len q n => exact .len (q.mono e) n
  | no q n => exact .no (q.mono e) n
theorem PartsG.mono {g h : Heap} {x : V} {n : Option Nat} (y : PartsG g x n) (e : Ext g h) : PartsG h x n := by
  cases y with
  | seq q => exact .seq (q.mono e)
  | no q n => exact .no (q.mono e) n

section
variable {P : Program} {w : World} {K : PySem.W.Frag} {mg : Str → Option Value} {base : Heap}
theorem kitsI {g : Heap} {x : V} {t : String} (y : TyG g x t) : ∃ b1 b2, kitB t "int" = some b1 ∧ kitB t "bool" = some b2 ∧ (b1 && !b2) = (t == "int") := by
  cases y with
  | non => exact ⟨false, false, by decide +kernel, by decide +kernel, by decide⟩
  | bl b => exact ⟨true, true, by decide +kernel, by decide +kernel, by decide⟩
  | int i => exact ⟨true, false, by decide +kernel, by decide +kernel, by decide⟩
  | str x => exact ⟨false, false, by decide +kernel, by decide +kernel, by decide⟩
  | tup q => exact ⟨false, false, by decide +kernel, by decide +kernel, by decide⟩
  | lst q => exact ⟨false, false, by decide +kernel, by decide +kernel, by decide⟩
theorem kitsS {g : Heap} {x : V} {t : String} (y : TyG g x t) : PySem.W.kitAny K (.type t) (["list", "tuple"].map Value.type) = some (isSeq t) := by
  have two : ∀ b1 b2, kitB t "list" = some b1 → kitB t "tuple" = some b2 → PySem.W.kitAny K (.type t) (["list", "tuple"].map Value.type) = some (b1 || b2) := fun b1 b2 h1 h2 =>
    kitAny_cons (kit_ty h1) (fun e => kitAny_cons (kit_ty h2) (fun e2 => by rw [e, e2]; exact kitAny_nil) (fun e2 => by rw [e2]; simp)) (fun e => by rw [e]; rfl)
  cases y with
  | non => exact two false false (by decide +kernel) (by decide +kernel)
  | bl b => exact two false false (by decide +kernel) (by decide +kernel)
  | int i => exact two false false (by decide +kernel) (by decide +kernel)
  | str x => exact two false false (by decide +kernel) (by decide +kernel)
  | tup q => exact two false true (by decide +kernel) (by decide +kernel)
  | lst q => exact two true false (by decide +kernel) (by decide +kernel)

theorem pf_is_integer {f : Addr} {fd : FuncData} (M : L2.Mod K mg base) (G : Mg mg) (F : Fun K "is_integer" "is_integer" sIsInteger f fd) : PF P w K mg base 1 f fd ["value"] pInteger := by
  refine pf_ret M F scIsInteger rfl (by decide +kernel) (fun cdv A L g us vs v hr hx r hl h hn => ?_) fun vs g h v e q => ?_
  · obtain ⟨x, t, rfl, ty, rfl⟩ := h
    obtain ⟨u, rfl, ru⟩ := vals1 r
    obtain ⟨m, ns, hm⟩ := hn 0 "value" u rfl rfl
    have FR : FrP K mg base A (envOfC "is_integer" (defScope sIsInteger) L f cdv) g := ⟨M, hx, rfl, rfl, rfl, hr.hd⟩
    have val : ∀ {pos : Pos}, EV P w A (envOfC "is_integer" (defScope sIsInteger) L f cdv) g (.Name "value" pos) x := ev_loc FR rfl ns hm ru
    obtain ⟨b1, b2, h1, h2, e⟩ := kitsI ty
    rw [← e]
    exact ev_and (ev_isi FR rfl G.isinstance val ty rfl G.int (by decide +kernel) h1) fun _ => ev_one (ev_not (ev_isi FR rfl G.isinstance val ty rfl G.bool (by decide +kernel) h2))
  · obtain ⟨x, t, h1, h2, h3⟩ := q
    exact ⟨x, t, h1, h2.mono e, h3⟩
theorem pf_is_number {f f1 : Addr} {fd fd1 : FuncData} (M : L2.Mod K mg base) (G : Mg mg) (F : Fun K "is_number" "is_number" sIsNumber f fd) (F1 : Fun K "is_integer" "is_integer" sIsInteger f1 fd1) (b1 : Binds K fd1 ["value"] []) (m1 : mg "is_integer" = some (.ref f1)) :
    PF P w K mg base 2 f fd ["value"] pNumber := by
  have G1 : PF P w K mg base 1 f1 fd1 ["value"] pInteger := pf_is_integer M G F1
  refine pf_ret M F scIsNumber rfl (by decide +kernel) (fun cdv A L g us vs v hr hx r hl h hn => ?_) fun vs g h v e q => ?_
  · obtain ⟨x, t, rfl, ty, rfl⟩ := h
    obtain ⟨u, rfl, ru⟩ := vals1 r
    obtain ⟨m, ns, hm⟩ := hn 0 "value" u rfl rfl
    have FR : FrP K mg base A (envOfC "is_number" (defScope sIsNumber) L f cdv) g := ⟨M, hx, rfl, rfl, rfl, hr.hd⟩
    have val : ∀ {pos : Pos}, EV P w A (envOfC "is_number" (defScope sIsNumber) L f cdv) g (.Name "value" pos) x := ev_loc FR rfl ns hm ru
    have one : ∀ {p q pos : Pos}, EV P w A (envOfC "is_number" (defScope sIsNumber) L f cdv) g (.Call (.Name "is_integer" p) [.Name "value" q] [] pos) (.bl (t == "int")) := fun {p q pos} =>
      ev_pf FR G1 hr rfl m1 F1.kp b1 (ea_cons val ea_nil) rfl fun h e => ⟨x, t, rfl, ty.mono e, rfl⟩
    cases ty with
    | int i => exact ev_and (x := true) (y := decide (i ≥ 0)) one fun _ => ev_one (ev_ge val ev_int)
    | non => exact ev_and (x := false) (y := false) one fun h => nomatch h
    | bl b => exact ev_and (x := false) (y := false) one fun h => nomatch h
    | str s => exact ev_and (x := false) (y := false) one fun h => nomatch h
    | tup s => exact ev_and (x := false) (y := false) one fun h => nomatch h
    | lst s => exact ev_and (x := false) (y := false) one fun h => nomatch h
  · obtain ⟨x, t, h1, h2, h3⟩ := q
    exact ⟨x, t, h1, h2.mono e, h3⟩
theorem pf_is_sequence {f : Addr} {fd : FuncData} (M : L2.Mod K mg base) (G : Mg mg) (F : Fun K "is_sequence" "is_sequence" sIsSequence f fd) : PF P w K mg base 1 f fd ["value"] pSequence := by
  refine pf_ret M F scIsSequence rfl (by decide +kernel) (fun cdv A L g us vs v hr hx r hl h hn => ?_) fun vs g h v e q => ?_
  · obtain ⟨x, t, rfl, ty, rfl⟩ := h
    obtain ⟨u, rfl, ru⟩ := vals1 r
    obtain ⟨m, ns, hm⟩ := hn 0 "value" u rfl rfl
    have FR : FrP K mg base A (envOfC "is_sequence" (defScope sIsSequence) L f cdv) g := ⟨M, hx, rfl, rfl, rfl, hr.hd⟩
    exact ev_isiT (Ts := ["list", "tuple"]) FR rfl G.isinstance (ev_loc FR rfl ns hm ru) ty (ea_cons (ev_blt FR rfl G.list (by decide +kernel) rfl) (ea_cons (ev_blt FR rfl G.tuple (by decide +kernel) rfl) ea_nil)) (kitsS ty) (by decide)
  · obtain ⟨x, t, h1, h2, h3⟩ := q
    exact ⟨x, t, h1, h2.mono e, h3⟩
theorem pf_is_of_parts {f f1 : Addr} {fd fd1 : FuncData} (M : L2.Mod K mg base) (G : Mg mg) (F : Fun K "is_of_parts" "is_of_parts" sIsOfParts f fd) (F1 : Fun K "is_sequence" "is_sequence" sIsSequence f1 fd1) (b1 : Binds K fd1 ["value"] []) (m1 : mg "is_sequence" = some (.ref f1)) :
    PF P w K mg base 2 f fd ["value", "many"] pOfParts := by
  have G1 : PF P w K mg base 1 f1 fd1 ["value"] pSequence := pf_is_sequence M G F1
  refine pf_ret M F scIsOfParts rfl (by decide +kernel) (fun cdv A L g us vs v hr hx r hl h hn => ?_) fun vs g h v e q => ?_
  · obtain ⟨x, n, k, rfl, pt, rfl⟩ := h
    obtain ⟨u, u2, rfl, ru, ru2⟩ := vals2 r
    obtain ⟨m, ns, hm⟩ := hn 0 "value" u rfl rfl
    obtain ⟨m2, ns2, hm2⟩ := hn 1 "many" u2 rfl rfl
    have FR : FrP K mg base A (envOfC "is_of_parts" (defScope sIsOfParts) L f cdv) g := ⟨M, hx, rfl, rfl, rfl, hr.hd⟩
    have val : ∀ {pos : Pos}, EV P w A (envOfC "is_of_parts" (defScope sIsOfParts) L f cdv) g (.Name "value" pos) x := ev_loc FR rfl ns hm ru
    have one : ∀ {t : String} {p q pos : Pos}, TyG g x t → EV P w A (envOfC "is_of_parts" (defScope sIsOfParts) L f cdv) g (.Call (.Name "is_sequence" p) [.Name "value" q] [] pos) (.bl (isSeq t)) := fun {t p q pos} ty =>
      ev_pf FR G1 hr rfl m1 F1.kp b1 (ea_cons val ea_nil) rfl fun h e => ⟨x, t, rfl, ty.mono e, rfl⟩
    cases pt with
    | @seq b a its q =>
      have s1 : isSeq (if b = true then "tuple" else "list") = true := by cases b <;> rfl
      refine ev_and (x := true) (y := decide ((its.length : Int) = k)) ?_ fun _ => ev_one (ev_eqI (ev_len FR rfl G.len val q) (ev_loc FR rfl ns2 hm2 ru2))
      rw [← s1]
      exact one (TyG.seq q)
    | @no _ t ty hno =>
      refine ev_and (x := false) (y := false) ?_ fun h => nomatch h
      rw [← hno]
      exact one ty
  · obtain ⟨x, n, k, h1, h2, h3⟩ := q
    exact ⟨x, n, k, h1, h2.mono e, h3⟩
theorem pf_is_stretch {f f1 f2 : Addr} {fd fd1 fd2 : FuncData} {f3 f4 : Addr} {fd3 fd4 : FuncData} (M : L2.Mod K mg base) (G : Mg mg) (F : Fun K "is_stretch" "is_stretch" sIsStretch f fd)
    (F1 : Fun K "is_of_parts" "is_of_parts" sIsOfParts f1 fd1) (b1 : Binds K fd1 ["value", "many"] []) (m1 : mg "is_of_parts" = some (.ref f1)) (F2 : Fun K "is_number" "is_number" sIsNumber f2 fd2) (b2 : Binds K fd2 ["value"] []) (m2 : mg "is_number" = some (.ref f2))
    (F3 : Fun K "is_sequence" "is_sequence" sIsSequence f3 fd3) (b3 : Binds K fd3 ["value"] []) (m3 : mg "is_sequence" = some (.ref f3)) (F4 : Fun K "is_integer" "is_integer" sIsInteger f4 fd4) (b4 : Binds K fd4 ["value"] []) (m4 : mg "is_integer" = some (.ref f4)) :
    PF P w K mg base 3 f fd ["value"] pStretch := by
  have G1 : PF P w K mg base 2 f1 fd1 ["value", "many"] pOfParts := pf_is_of_parts M G F1 F3 b3 m3
  have G2 : PF P w K mg base 2 f2 fd2 ["value"] pNumber := pf_is_number M G F2 F4 b4 m4
  refine pf_ret M F scIsStretch rfl (by decide +kernel) (fun cdv A L g us vs v hr hx r hl h hn => ?_) fun vs g h v e q => ?_
  · obtain ⟨x, b, rfl, st, rfl⟩ := h
    obtain ⟨u, rfl, ru⟩ := vals1 r
    obtain ⟨m, ns, hm⟩ := hn 0 "value" u rfl rfl
    have FR : FrP K mg base A (envOfC "is_stretch" (defScope sIsStretch) L f cdv) g := ⟨M, hx, rfl, rfl, rfl, hr.hd⟩
    have val : ∀ {pos : Pos}, EV P w A (envOfC "is_stretch" (defScope sIsStretch) L f cdv) g (.Name "value" pos) x := ev_loc FR rfl ns hm ru
    have parts : ∀ {n : Option Nat} {p q pos r : Pos} {k : Nat}, PartsG g x n → EV P w A (envOfC "is_stretch" (defScope sIsStretch) L f cdv) g (.Call (.Name "is_of_parts" p) [.Name "value" q, .Constant (.int 2) k r] [] pos)
        (.bl (match n with | some k => decide ((k : Int) = 2) | none => false)) := fun {n p q pos r k} pt => ev_pf FR G1 hr rfl m1 F1.kp b1 (ea_cons val (ea_cons ev_int ea_nil)) rfl fun h e => ⟨x, n, 2, rfl, pt.mono e, rfl⟩
    cases st with
    | @two b a u0 u1 y z t s q r0 r1 ty tz =>
      exact ev_and (x := true) (y := isNum y && isNum z) (parts (.seq q)) fun _ => ev_and (x := isNum y) (y := isNum z)
        (ev_pf FR G2 hr rfl m2 F2.kp b2 (ea_cons (ev_ix (j := 0) FR val ev_int q rfl r0) ea_nil) rfl fun h e => ⟨y, t, rfl, ty.mono e, rfl⟩)
        fun _ => ev_one (ev_pf FR G2 hr rfl m2 F2.kp b2 (ea_cons (ev_ix (j := 1) FR val ev_int q rfl r1) ea_nil) rfl fun h e => ⟨z, s, rfl, tz.mono e, rfl⟩)
    | @len b a its q n =>
      refine ev_and (x := false) (y := false) ?_ fun h => nomatch h
      have e : (false : Bool) = decide ((its.length : Int) = 2) := (decide_eq_false (by omega)).symm
      rw [e]
      exact parts (.seq q)
    | @no _ t ty n => exact ev_and (x := false) (y := false) (parts (.no ty n)) fun h => nomatch h
  · obtain ⟨x, b, h1, h2, h3⟩ := q
    exact ⟨x, b, h1, h2.mono e, h3⟩
end
end K13
namespace K13
open PySem PySem.Spec PyProof.Rows L2 GxR Pu Evl
theorem scNeedNumber : FnScope ["value"] ["value"] (defScope sNeedNumber) := ⟨rfl, rfl, rfl, by decide +kernel, rfl, by decide +kernel, by decide +kernel⟩
theorem scIsKeep : FnScope ["value"] ["value"] (defScope sIsKeep) := ⟨rfl, rfl, rfl, by decide +kernel, rfl, by decide +kernel, by decide +kernel⟩
theorem scNeedKeep : FnScope ["keep"] ["keep"] (defScope sNeedKeep) := ⟨rfl, rfl, rfl, by decide +kernel, rfl, by decide +kernel, by decide +kernel⟩
theorem scCountsOf : FnScope ["keep", "many", "counts", "left", "here"] ["keep", "many"] (defScope sCountsOf) := ⟨rfl, rfl, rfl, by decide +kernel, rfl, by decide +kernel, by decide +kernel⟩
/-- a promise of a value, of a new tuple -/
def spV (pre : List V → Hp → V → Prop) : Sp := fun vs H Q _ => ∃ v, pre vs H v ∧ ∀ H', Ex H H' → Q v H'
def spT (pre : List V → Hp → List V → Prop) : Sp := fun vs H Q _ => ∃ xs, pre vs H xs ∧ ∀ p H', H p = none → Ex H H' → H' p = some (.tup xs) → Q (.ref p) H'
theorem spV.use {pre : List V → Hp → V → Prop} {vs : List V} {H : Hp} {v : V} (h : ∀ H1, Ex H H1 → pre vs H1 v) : SpV (spV pre) vs H v := fun H1 e Q q E => ⟨v, h H1 e, q⟩
theorem spPure.use {P : Program} {w : World} {base : Heap} {ps : List Str} {sp : List V → Heap → V → Prop} {vs : List V} {H : Hp} {v : V} (hl : vs.length = ps.length) (h : ∀ H1, Ex H H1 → ∀ h, HOk P w H1 h → Ext base h → sp vs h v) :
    SpV (spPure P w base ps sp) vs H v := fun H1 e Q q E => ⟨hl, v, h H1 e, q H1 (Ex.refl H1)⟩
/-- the facts of all defs that others call -/
structure Fns (K : PySem.W.Frag) (mg : Str → Option Value) (x : Str) (ps : List Str) (st : Stmt) (f : Addr) (fd : FuncData) : Prop where
  fn : Fun K x x st f fd
  bd : Binds K fd ps []
  mg : mg x = some (.ref f)
section
variable {P : Program} {w : World} {K : PySem.W.Frag} {mg : Str → Option Value} {base : Heap}
variable {fInt fNum fSeq fPar fNN fIK fNK fCO fSF fNR fSh fSt fIS fFO fLS fLG fSA fFB : Addr} {dInt dNum dSeq dPar dNN dIK dNK dCO dSF dNR dSh dSt dIS dFO dLS dLG dSA dFB : FuncData}
def pNat : List V → Hp → V → Prop := fun vs H v => ∃ i : Int, vs = [.int i] ∧ 0 ≤ i ∧ v = .non
theorem ok_need_number {f : Addr} {fd : FuncData} (M : L2.Mod K mg base) (G : Mg mg) (F : Fun K "need_number" "need_number" sNeedNumber f fd) (F1 : Fns K mg "is_number" ["value"] sIsNumber fNum dNum) (F2 : Fns K mg "is_integer" ["value"] sIsInteger fInt dInt) :
    FnOk P w K mg base CX0 3 f fd ["value"] (spV pNat) := by
  have G1 : FnOk P w K mg base CX0 2 fNum dNum ["value"] (spPure P w base ["value"] pNumber) := (pf_is_number M G F1.fn F2.fn F2.bd F2.mg).ok
  refine F.ok scNeedNumber (fun vs H Q E h => ?_) (fun cdv A outer s H vs Q E hr h => ?_)
  · obtain ⟨v, ⟨i, rfl, _⟩, _⟩ := h
    rfl
  · obtain ⟨v, ⟨i, rfl, hi, rfl⟩, k⟩ := h
    refine ⟨_, pss_one (ps_if (pt_not (pt_val (pe_call G1 hr (by rfl) F1.mg F1.fn.kp F1.bd .nil pass0 (pa_cons (pv 0) pa_nil)))) pss_never pss_nil), ?_⟩
    have e1 : EvT (tNot (tB (tCall (spPure P w base ["value"] pNumber) [] E0 (tCons (tVar 0) tNil)))) (start ["value"] [V.int i]) H (!true) :=
      et_not (et_B (ev_call (ea_cons (ev_var rfl) ea_nil) (spPure.use rfl fun H1 _ h _ _ => ⟨.int i, "int", rfl, .int i, by rw [show isNum (.int i) = decide (i ≥ 0) from rfl, decide_eq_true hi]⟩)))
    exact s_if e1 (fun z => nomatch z) fun _ H1 e => k H1 e
def pKeepB : List V → Hp → V → Prop := fun vs H v => ∃ i : Int, vs = [.int i] ∧ 2 ≤ i ∧ i ≤ 8 ∧ v = .bl true
theorem ok_is_keep {f : Addr} {fd : FuncData} (M : L2.Mod K mg base) (G : Mg mg) (F : Fun K "is_keep" "is_keep" sIsKeep f fd) (F2 : Fns K mg "is_integer" ["value"] sIsInteger fInt dInt) :
    FnOk P w K mg base CX0 2 f fd ["value"] (spV pKeepB) := by
  have G1 : FnOk P w K mg base CX0 1 fInt dInt ["value"] (spPure P w base ["value"] pInteger) := (pf_is_integer M G F2.fn).ok
  refine F.ok scIsKeep (fun vs H Q E h => ?_) (fun cdv A outer s H vs Q E hr h => ?_)
  · obtain ⟨v, ⟨i, rfl, _⟩, _⟩ := h
    rfl
  · obtain ⟨v, ⟨i, rfl, h2, h8, rfl⟩, k⟩ := h
    refine ⟨_, pss_one (ps_ret (pe_and (pe_call G1 hr (by rfl) F2.mg F2.fn.kp F2.bd .nil pass0 (pa_cons (pv 0) pa_nil)) (pe_one (pe_chain op_le op_le pe_int (pv 0) pe_int)))), ?_⟩
    have e1 : Ev (tCall (spPure P w base ["value"] pInteger) [] E0 (tCons (tVar 0) tNil)) (start ["value"] [V.int i]) H (.bl true) :=
      ev_call (ea_cons (ev_var rfl) ea_nil) (spPure.use rfl fun H1 _ h _ _ => ⟨.int i, "int", rfl, .int i, rfl⟩)
    refine e1 H (Ex.refl H) _ fun H2 e2 => ⟨true, rfl, iteT ⟨.int i, rfl, 2, i, rfl, rfl, true, by show V.bl (decide (2 ≤ i)) = _; rw [decide_eq_true h2], iteT ⟨i, 8, rfl, rfl, ?_⟩⟩⟩
    show Q (V.bl (decide (i ≤ 8))) H2
    rw [decide_eq_true h8]
    exact k H2 e2
def pKeep : List V → Hp → V → Prop := fun vs H v => ∃ i : Int, vs = [.int i] ∧ 2 ≤ i ∧ i ≤ 8 ∧ v = .non
theorem ok_need_keep {f : Addr} {fd : FuncData} (M : L2.Mod K mg base) (G : Mg mg) (F : Fun K "need_keep" "need_keep" sNeedKeep f fd) (F1 : Fns K mg "is_keep" ["value"] sIsKeep fIK dIK) (F2 : Fns K mg "is_integer" ["value"] sIsInteger fInt dInt) :
    FnOk P w K mg base CX0 3 f fd ["keep"] (spV pKeep) := by
  have G1 : FnOk P w K mg base CX0 2 fIK dIK ["value"] (spV pKeepB) := ok_is_keep M G F1.fn F2
  refine F.ok scNeedKeep (fun vs H Q E h => ?_) (fun cdv A outer s H vs Q E hr h => ?_)
  · obtain ⟨v, ⟨i, rfl, _⟩, _⟩ := h
    rfl
  · obtain ⟨v, ⟨i, rfl, h2, h8, rfl⟩, k⟩ := h
    refine ⟨_, pss_one (ps_if (pt_not (pt_val (pe_call G1 hr (by rfl) F1.mg F1.fn.kp F1.bd .nil pass0 (pa_cons (pv 0) pa_nil)))) pss_never pss_nil), ?_⟩
    have e1 : EvT (tNot (tB (tCall (spV pKeepB) [] E0 (tCons (tVar 0) tNil)))) (start ["keep"] [V.int i]) H (!true) :=
      et_not (et_B (ev_call (ea_cons (ev_var rfl) ea_nil) (spV.use fun H1 _ => ⟨i, rfl, h2, h8, rfl⟩)))
    exact s_if e1 (fun z => nomatch z) fun _ H1 e => k H1 e
def natsV (cs : List Nat) : List V := cs.map fun c => .int (c : Nat)
def pCounts : List V → Hp → List V → Prop := fun vs H xs => ∃ k m : Nat, vs = [.int k, .int m] ∧ 2 ≤ k ∧ k ≤ 8 ∧ m ≤ 10000 ∧ xs = natsV (Sh.counts k m)
theorem ok_counts_of {f : Addr} {fd : FuncData} (M : L2.Mod K mg base) (G : Mg mg) (F : Fun K "counts_of" "counts_of" sCountsOf f fd) (F0 : Fns K mg "need_keep" ["keep"] sNeedKeep fNK dNK) (F1 : Fns K mg "is_keep" ["value"] sIsKeep fIK dIK) (F2 : Fns K mg "is_integer" ["value"] sIsInteger fInt dInt) :
    FnOk P w K mg base CX0 4 f fd ["keep", "many"] (spT pCounts) := by
  have G0 : FnOk P w K mg base CX0 3 fNK dNK ["keep"] (spV pKeep) := ok_need_keep M G F0.fn F1 F2
  refine F.ok scCountsOf (fun vs H Q E h => ?_) (fun cdv A outer s H vs Q E hr h => ?_)
  · obtain ⟨xs, ⟨k, m, rfl, _⟩, _⟩ := h
    rfl
  · obtain ⟨xs, ⟨k, m, rfl, h2, h8, hm, rfl⟩, kk⟩ := h
    refine ⟨_, pss_cons (ps_expr (pe_call G0 hr (by rfl) F0.mg F0.fn.kp F0.bd .nil pass0 (pa_cons (pv 0) pa_nil)))
      (pss_cons (ps_set (i := 2) scCountsOf.nd rfl (.inl rfl) (pe_lst pa_nil))
      (pss_cons (ps_set (i := 3) scCountsOf.nd rfl (.inl rfl) (pv 1))
      (pss_cons (ps_while PassesOwn.never (pt_cmpR op_gt (pv 3) (pv 0) (nomark _))
        (pss_cons (ps_set (i := 4) scCountsOf.nd rfl (.inl rfl) (pe_op op_sub (pv 0) (pe_op op_mod (pe_op op_sub (pv 3) (pv 0)) pe_int)))
        (pss_cons (ps_expr (pe_bm PySem.F.plainAttrs_list PySem.F.slot_list_append PySem.F.type_list_append mt_append (pv 2) (pa_cons (pv 4) pa_nil)))
        (pss_one (ps_set (i := 3) scCountsOf.nd rfl (.inl rfl) (pe_op op_fdiv (pe_op op_sub (pv 3) (pv 4)) pe_int))))))
      (pss_cons (ps_if (pt_cmpR op_gt (pv 3) pe_int (nomark _)) (pss_one (ps_expr (pe_bm PySem.F.plainAttrs_list PySem.F.slot_list_append PySem.F.type_list_append mt_append (pv 2) (pa_cons (pv 3) pa_nil)))) pss_nil)
      (pss_one (ps_ret (pe_callTy call_tuple_of (by rfl) G.tuple (by decide +kernel) (pa_cons (pv 2) pa_nil)))))))), ?_⟩
    refine q_drop (v := .non) (ev_call (ea_cons (ev_var rfl) ea_nil) (spV.use fun H1 _ => ⟨k, rfl, by omega, by omega, rfl⟩)) fun H1 e1 => ?_
    refine q_asgL (xs := []) (el_lst ea_nil (by decide)) fun p H2 hp e2 h2' => ?_
    refine q_asg (v := .int m) (ev_var rfl) fun H3 e3 => ?_
    have hp0 : H p = none := fresh_back e1 hp
    refine q_while (fun n σ' H' => ∃ (dn : List Nat) (y : Option V), σ' = [some (.int k), some (.int m), some (.ref p), some (.int (n : Nat)), y] ∧ Ex H H' ∧ H' p = some (.lst (natsV dn)) ∧ Sh.counts k m = dn ++ Sh.counts k n ∧ dn.length + n ≤ m) m
      ⟨[], none, rfl, (e1.trans e2).trans e3, e3 p _ h2', rfl, by simp⟩ fun n σ' H' hw => ?_
    obtain ⟨dn, y, rfl, ex, hH, hc, hn⟩ := hw
    refine ⟨decide ((k : Int) < (n : Int)), et_test (ev_op (ev_var rfl) (ev_var rfl) rv_I0), fun hb H4 e4 => ?_, fun hb H4 e4 => ?_⟩
    · have hkn : k < n := by have := of_decide_eq_true hb; omega
      have eh : ((k : Int) - ((n : Int) - (k : Int)) % 2) = ((k - (n - k) % 2 : Nat) : Int) := by omega
      have ed : (((n : Nat) : Int) - ((k - (n - k) % 2 : Nat) : Int)) / 2 = (((n - (k - (n - k) % 2)) / 2 : Nat) : Int) := by omega
      refine ⟨fun σ2 H5 => ∃ (dn' : List Nat) (y : Option V) (n' : Nat), n' < n ∧ σ2 = [some (.int k), some (.int m), some (.ref p), some (.int (n' : Nat)), y] ∧ Ex H H5 ∧ H5 p = some (.lst (natsV dn')) ∧ Sh.counts k m = dn' ++ Sh.counts k n' ∧ dn'.length + n' ≤ m, fun σ2 H5 hN => ?_, ?_⟩
      · obtain ⟨dn', y, n', hlt, a, b, c, d, e⟩ := hN
        exact ⟨n', hlt, dn', y, a, b, c, d, e⟩
      refine q_asg (v := .int ((k - (n - k) % 2 : Nat) : Int)) (ev_is (ev_op (ev_var rfl) (ev_op (ev_op (ev_var rfl) (ev_var rfl) rv_I0) ev_c (rv_I (by decide))) rv_I0) (by rw [eh])) fun H5 e5 => ?_
      have hp5 : H5 p = some (.lst (natsV dn)) := e5 p _ (e4 p _ hH)
      refine q_app (K := K) hp5 (ev_var rfl) (ev_var (v := .int ((k - (n - k) % 2 : Nat) : Int)) rfl) (by unfold natsV; rw [List.length_map]; omega) fun H6 e6 => ?_
      refine s_asg (v := .int (((n - (k - (n - k) % 2)) / 2 : Nat) : Int)) (ev_is (ev_op (ev_op (ev_var rfl) (ev_var rfl) rv_I0) ev_c (rv_I ⟨by decide, by decide⟩)) (by rw [ed])) fun H7 e7 => ?_
      refine ⟨dn ++ [k - (n - k) % 2], _, (n - (k - (n - k) % 2)) / 2, by omega, rfl, ?_, ?_, ?_, ?_⟩
      · exact (Ex.mut (((ex.trans e4).trans e5).trans e6) hp0).trans e7
      · refine e7 p _ ?_
        rw [upd_same]
        unfold natsV
        rw [List.map_append]
        rfl
      · rw [hc, Sh.counts_big hkn h2, List.append_assoc]
        rfl
      · rw [List.length_append, List.length_singleton]
        omega
    · have hkn : ¬ k < n := fun z => of_decide_eq_false hb (by omega)
      have hs : Sh.counts k n = if 0 < n then [n] else [] := Sh.counts_small hkn
      have fin : ∀ (H5 : Hp) (σ5 : L2.St), σ5[2]? = some (some (.ref p)) → Ex H H5 → H5 p = some (.lst (natsV (Sh.counts k m))) →
          tRet (tCB (fun xs H Q => ∃ p ys, xs = [.ref p] ∧ ((SqL K H p ys ∧ ∀ l, H l = none → Q (.ref l) (upd H l (.tup ys))) ∨ (SqT K H p ys ∧ Q (.ref p) H))) (tCons (tVar 2) tNil)) { nx := fun x H' => Q V.non H', rt := Q } σ5 H5 := fun H5 σ5 hσ ex5 hp5 =>
        ⟨_, hσ, p, _, rfl, .inl ⟨SqL.of hp5, fun l hl => kk l _ (fresh_back ex5 hl) (ex5.trans (Ex.new hl)) upd_same⟩⟩
      refine q_when (b := decide ((0 : Int) < (n : Int))) (et_test (ev_op (ev_var rfl) ev_c rv_I0)) (fun hb2 H5 e5 => ?_) fun hb2 H5 e5 => ?_
      · have h0 : 0 < n := by have := of_decide_eq_true hb2; omega
        have hp5 : H5 p = some (.lst (natsV dn)) := e5 p _ (e4 p _ hH)
        refine s_app (K := K) hp5 (ev_var rfl) (ev_var (v := .int (n : Nat)) rfl) (by unfold natsV; rw [List.length_map]; omega) fun H6 e6 => ?_
        refine fin _ _ rfl (Ex.mut (((ex.trans e4).trans e5).trans e6) hp0) ?_
        rw [upd_same, hc, hs, if_pos h0]
        unfold natsV
        rw [List.map_append]
        rfl
      · have h0 : ¬ 0 < n := fun z => of_decide_eq_false hb2 (by omega)
        refine fin _ _ rfl ((ex.trans e4).trans e5) ?_
        rw [hc, hs, if_neg h0, List.append_nil]
        exact e5 p _ (e4 p _ hH)
end
end K13
set_option Elab.async false
set_option linter.all false
set_option maxRecDepth 100000
set_option maxHeartbeats 4000000
namespace K13
open PySem PySem.Spec PyProof.Rows L2 GxR Pu Evl
def spSh (pre : List V → Hp → List (Nat × Nat) → Prop) : Sp := fun vs H Q _ => ∃ L, pre vs H L ∧ ∀ p xs H', H p = none → Ex H H' → H' p = some (.tup xs) → PrT H' L xs → Q (.ref p) H'
theorem scShapeFrom : FnScope ["keep", "first", "laid", "some", "row", "count", "sizes", "size", "place"] ["keep", "first", "laid"] (defScope sShapeFrom) := ⟨rfl, rfl, rfl, by decide +kernel, rfl, by decide +kernel, by decide +kernel⟩
def pShape : List V → Hp → List (Nat × Nat) → Prop := fun vs H L => ∃ k f l : Nat, vs = [.int k, .int f, .int l] ∧ 2 ≤ k ∧ k ≤ 8 ∧ f ≤ l ∧ l ≤ 10000 ∧ L = Sh.shp k f l
/-- sizes and counts -/
def szs (cs : List Nat) : List (Nat × Nat) := (List.range cs.length).map fun i => (2 ^ i, cs.getD i 0)
theorem szs_get {cs : List Nat} {i : Nat} (h : i < cs.length) : (szs cs)[i]? = some (2 ^ i, cs.getD i 0) := by
  unfold szs
  rw [List.getElem?_map, List.getElem?_range h]
  rfl
theorem drop_cons {cs : List Nat} {i : Nat} (h : i < cs.length) : cs.drop i = cs.getD i 0 :: cs.drop (i + 1) := by
  rw [List.drop_eq_getElem_cons h, List.getD_eq_getElem?_getD, List.getElem?_eq_getElem h]
  rfl
section
variable {P : Program} {w : World} {K : PySem.W.Frag} {mg : Str → Option Value} {base : Heap}
variable {fInt fNum fSeq fPar fNN fIK fNK fCO fSF fNR fSh fSt fIS fFO fLS fLG fSA fFB : Addr} {dInt dNum dSeq dPar dNN dIK dNK dCO dSF dNR dSh dSt dIS dFO dLS dLG dSA dFB : FuncData}
theorem ok_shape_from {f : Addr} {fd : FuncData} (M : L2.Mod K mg base) (G : Mg mg) (F : Fun K "shape_from" "shape_from" sShapeFrom f fd) (FC : Fns K mg "counts_of" ["keep", "many"] sCountsOf fCO dCO) (F0 : Fns K mg "need_keep" ["keep"] sNeedKeep fNK dNK) (F1 : Fns K mg "is_keep" ["value"] sIsKeep fIK dIK) (F2 : Fns K mg "is_integer" ["value"] sIsInteger fInt dInt) :
    FnOk P w K mg base CX0 5 f fd ["keep", "first", "laid"] (spSh pShape) := by
  have GC : FnOk P w K mg base CX0 4 fCO dCO ["keep", "many"] (spT pCounts) := ok_counts_of M G FC.fn F0 F1 F2
  refine F.ok scShapeFrom (fun vs H Q E h => ?_) (fun cdv A outer s H vs Q E hr h => ?_)
  · obtain ⟨L, ⟨k, f, l, rfl, _⟩, _⟩ := h
    rfl
  · obtain ⟨L, ⟨k, f, l, rfl, h2, h8, hfl, hl, rfl⟩, kk⟩ := h
    refine ⟨_, pss_cons (ps_set (i := 3) scShapeFrom.nd rfl (.inl rfl) (pe_lst pa_nil))
      (pss_cons (ps_set (i := 4) scShapeFrom.nd rfl (.inr rfl) (pv 1))
      (pss_cons (ps_setLc (i := 6) (own := [("place", 8), ("count", 5)]) (g := gTup K 2 (gCons (gName 8) (gCons (gName 5) gNil))) (by rfl) scShapeFrom.nd rfl rfl (sw_true rfl rfl rfl (by decide +kernel))
          (pi_enumT (by rfl) G.enumerate (pa_cons (pe_call GC hr (by rfl) FC.mg FC.fn.kp FC.bd .nil pass0 (pa_cons (pv 0) (pa_cons (pe_op op_sub (pv 2) (pv 1)) pa_nil))) pa_nil))
          (blkOk_by (own := [("place", 8), ("count", 5)]) (N := ["keep", "first", "laid", "some", "row", "count", "sizes", "size", "place"]) (sc := defScope sShapeFrom) (by decide +kernel))
          (fun _ _ _ _ _ => pg_tup rfl (pgs_cons (pg_name (i := 8) scShapeFrom.nd rfl (.inl rfl)) (pgs_cons (pg_name (i := 5) scShapeFrom.nd rfl (.inl rfl)) pgs_nil)))
          (fun _ _ _ _ _ => pts_nil) (fun _ _ _ _ _ => pe_tup (pa_cons (pe_op op_shl pe_int (pv 8)) (pa_cons (pv 5) pa_nil))))
      (pss_cons (ps_for PassesOwn.never rfl (pi_reversed (by rfl) G.reversed (pa_cons (pv 6) pa_nil)) (pg_tup rfl (pgs_cons (pg_name (i := 7) scShapeFrom.nd rfl (.inr rfl)) (pgs_cons (pg_name (i := 5) scShapeFrom.nd rfl (.inl rfl)) pgs_nil)))
        (pss_cons (ps_expr (pe_bm PySem.F.plainAttrs_list PySem.F.slot_list_extend PySem.F.type_list_extend mt_extend (pv 3) (pa_cons
            (pe_lc (own := [("place", 8)]) (by rfl) scShapeFrom.nd (pi_range1 (by rfl) G.range (pa_cons (pv 5) pa_nil))
              (blkOk_by (own := [("place", 8)]) (N := ["keep", "first", "laid", "some", "row", "count", "sizes", "size", "place"]) (sc := defScope sShapeFrom) (by decide +kernel))
              (fun _ _ _ _ _ => pg_name (i := 8) scShapeFrom.nd rfl (.inl rfl)) (fun _ _ _ _ _ => pts_nil)
              (fun _ _ _ _ _ => pe_tup (pa_cons (pe_op op_add (pv 4) (pe_op op_mul (pv 7) (pv 8))) (pa_cons (pv 7) pa_nil)))) pa_nil)))
        (pss_one (ps_aug (i := 4) scShapeFrom.nd rfl (.inr rfl) (pe_op op_mul (pv 7) (pv 5)) ip_add))))
      (pss_one (ps_ret (pe_callTy call_tuple_of (by rfl) G.tuple (by decide +kernel) (pa_cons (pv 3) pa_nil))))))), ?_⟩
    generalize hcs : Sh.counts k (l - f) = cs
    have hlen : cs.length ≤ 10000 := by
      rw [← hcs]
      have := Sh.counts_len k h2 (l - f)
      omega
    have hle : ∀ i, cs.getD i 0 ≤ 8 := fun i => by
      rw [← hcs]
      have := Sh.counts_le h2 (l - f) i
      omega
    have htot : ∀ i, Sh.tot (cs.drop i) (2 ^ i) ≤ 10000 := fun i => by
      have a := Sh.tot_drop cs i
      rw [← hcs, Sh.counts_tot h2] at a
      rw [← hcs]
      omega
    -- some = [], row = first
    refine q_asgL (xs := []) (el_lst ea_nil (by decide)) fun p H1 hp e1 h1 => ?_
    refine q_asg (v := .int f) (ev_var rfl) fun H2 e2 => ?_
    -- sizes = [..]
    have ec : EvU (tCall (spT pCounts) [] E0 (tCons (tVar 0) (tCons (tOp (rI0 fun i j => .int (i - j)) (tVar 2) (tVar 1)) tNil)))
        [some (.int k), some (.int f), some (.int l), some (.ref p), some (.int f), none, none, none, none] H2 (natsV cs) :=
      eu_call (pre := pCounts) (vs := [.int k, .int ((l : Int) - (f : Int))]) (K := K) (ea_cons (ev_var rfl) (ea_cons (ev_op (ev_var rfl) (ev_var rfl) rv_I0) ea_nil))
        (fun Hx _ => ⟨k, l - f, by rw [show ((l - f : Nat) : Int) = (l : Int) - (f : Int) by omega]; rfl, h2, h8, by omega, by rw [hcs]⟩)
    refine ec H2 (Ex.refl H2) _ fun c H3 hc e3 h3 => ?_
    refine ⟨c, natsV cs, rfl, SqT.of h3, fun D hD => ?_⟩
    have hncs : (natsV cs).length = cs.length := by unfold natsV; rw [List.length_map]
    refine lc_gen (walk_enumT (K := K) (a := c) (xs := natsV cs)) (fun i H acc => PrT H ((szs cs).take i) acc) (by rw [hncs]; omega) hD (fun i H xs ys acc h r => r.upd h) .nil (fun H e => SqT.of (e c _ h3)) ?_ ?_
    · intro i x Ha Hb acc hi ex y hR Qy Qn hy hn
      obtain ⟨T, a, b, rfl, hT, rfl, ha, hb⟩ := y
      rw [hncs] at hi
      have ea : a = .int (i : Nat) := (Option.some.inj ha).symm
      have eb : b = .int (cs.getD i 0 : Nat) := by
        have q : (natsV cs)[i]? = some b := hb
        unfold natsV at q
        rw [List.getElem?_map, List.getElem?_eq_getElem hi] at q
        rw [List.getD_eq_getElem?_getD, List.getElem?_eq_getElem hi]
        exact (Option.some.inj q).symm
      subst ea eb
      refine ⟨T, _, rfl, SqT.of upd_same, rfl, _, _, rfl, _, _, rfl, rfl, rfl, yes_then ?_⟩
      have pw : (1 : Int) * 2 ^ ((i : Nat) : Int).toNat = ((2 ^ i : Nat) : Int) := by
        rw [Int.toNat_natCast, Int.one_mul]
        exact (Int.natCast_pow 2 i).symm
      refine eu_tup (vs := [.int ((2 ^ i : Nat) : Int), .int (cs.getD i 0 : Nat)]) (ea_cons (ev_is (ev_op ev_c (ev_var (v := .int (i : Nat)) rfl) (rv_I ⟨by omega, by omega, by decide⟩)) (by rw [pw])) (ea_cons (ev_var rfl) ea_nil)) (by show 2 ≤ 100000; decide) _ (Ex.refl _) _ fun q H5 hq e5 h5 => ?_
      refine hy _ _ ((Ex.new hT).trans e5) ?_
      rw [List.take_add_one, szs_get hi]
      exact (hR.ex ((Ex.new hT).trans e5)).snoc h5
    · intro H4 refs e4 hDr hR
      rw [hncs, List.take_of_length_le (by unfold szs; rw [List.length_map, List.length_range]; exact Nat.le_refl _)] at hR
      have ex4 : Ex H H4 := ((e1.trans e2).trans e3).trans e4
      have hrl : refs.length = cs.length := by
        rw [← hR.len]
        unfold szs
        rw [List.length_map, List.length_range]
      have hp4 : H4 p = some (.lst []) := e4 p _ (e3 p _ (e2 p _ h1))
      have hD4 : H4 D = some (.lst refs) := hDr
      have npD : p ≠ D := fun z => by
        have q := e3 p _ (e2 p _ h1)
        rw [z, hD] at q
        cases q
      have D0 : H D = none := fresh_back ((e1.trans e2).trans e3) hD
      -- for size, count in reversed(sizes)
      refine ⟨.ref D, rfl, D, refs, rfl, SqL.of hD4, for_it (walk_rev (K := K) (a := D) (xs := refs)) (fun i σ' H' => ∃ (y5 y7 y8 : Option V) (acc : List V), σ' = [some (.int k), some (.int f), some (.int l), some (.ref p), some (.int ((f + Sh.tot (cs.drop (cs.length - i)) (2 ^ (cs.length - i)) : Nat) : Int)), y5, some (.ref D), y7, y8] ∧
          Ex H H' ∧ H' D = some (.lst refs) ∧ PrT H' (szs cs) refs ∧ H' p = some (.lst acc) ∧ PrT H' (Sh.sh f (cs.drop (cs.length - i)) (2 ^ (cs.length - i))) acc) ?_ (fun i σ' H' _ ⟨_, _, _, _, _, _, h, _⟩ => SqL.of h) ?_ ?_⟩
      · refine ⟨none, none, none, [], ?_, ex4, hD4, hR, hp4, ?_⟩
        · rw [Nat.sub_zero, List.drop_length]
          rfl
        · rw [Nat.sub_zero, List.drop_length]
          exact .nil
      · intro i x σ' Ha Hb hi hPv hy
        obtain ⟨y5, y7, y8, acc, rfl, exA, hDA, hRA, hpA, hSA⟩ := hPv
        obtain ⟨rfl, hx⟩ := hy
        rw [hrl] at hi hx
        obtain ⟨j, hj, hij⟩ : ∃ j, j < cs.length ∧ cs.length - i = j + 1 := ⟨cs.length - 1 - i, by omega, by omega⟩
        have ej : cs.length - 1 - i = j := by omega
        have ej2 : cs.length - (i + 1) = j := by omega
        rw [ej] at hx
        rw [hij] at hSA
        obtain ⟨pr, hpr, b, rfl, hb⟩ := Paired.at hRA hx
        rw [szs_get hj] at hpr
        have hpe : pr = (2 ^ j, cs.getD j 0) := (Option.some.inj hpr).symm
        subst hpe
        have hc8 := hle j
        have t1 := htot (j + 1)
        have tj : Sh.tot (cs.drop j) (2 ^ j) = Sh.tot (cs.drop (j + 1)) (2 ^ (j + 1)) + 2 ^ j * cs.getD j 0 := by
          rw [drop_cons hj, Nat.pow_succ, Nat.mul_comm (2 ^ j) 2]
          rfl
        have sj : Sh.sh f (cs.drop j) (2 ^ j) = Sh.sh f (cs.drop (j + 1)) (2 ^ (j + 1)) ++ (List.range (cs.getD j 0)).map fun q => (f + Sh.tot (cs.drop (j + 1)) (2 ^ (j + 1)) + 2 ^ j * q, 2 ^ j) := by
          rw [drop_cons hj, Nat.pow_succ, Nat.mul_comm (2 ^ j) 2]
          rfl
        have hacc : acc.length ≤ 10000 := by
          rw [← hSA.len]
          exact Nat.le_trans (Sh.sh_len _ _ _ (Nat.two_pow_pos _)) t1
        rw [hij]
        refine ⟨b, _, rfl, SqT.of hb, rfl, _, _, rfl, _, _, rfl, rfl, ?_⟩
        -- some.extend([..])
        refine ⟨.ref p, rfl, .inl ⟨rfl, acc, SqL.of hpA⟩, .int (cs.getD j 0 : Nat), rfl, (cs.getD j 0 : Nat), rfl, by omega, by omega, fun D2 hD2 => ?_⟩
        refine lc_gen walk_range (fun i H acc2 => PrT H ((List.range i).map fun q => (f + Sh.tot (cs.drop (j + 1)) (2 ^ (j + 1)) + 2 ^ j * q, 2 ^ j)) acc2) (by rw [Int.toNat_natCast]; omega) hD2 (fun i H xs ys acc h r => r.upd h) .nil (fun _ _ => True.intro) ?_ ?_
        · intro q x Hc Hd acc2 hq ex2 y hR2 Qy Qn hy hn
          obtain ⟨rfl, rfl⟩ := y
          have hq2 : q < cs.getD j 0 := by
            rw [Int.toNat_natCast] at hq
            exact hq
          refine ⟨rfl, yes_then ?_⟩
          refine eu_tup (vs := [.int ((f + Sh.tot (cs.drop (j + 1)) (2 ^ (j + 1)) + 2 ^ j * q : Nat) : Int), .int ((2 ^ j : Nat) : Int)])
            (ea_cons (ev_is (ev_op (ev_var rfl) (ev_op (ev_var rfl) (ev_var rfl) (rv_I (.inr ⟨by omega, by omega⟩))) rv_I0) ?_) (ea_cons (ev_var rfl) ea_nil)) (by show 2 ≤ 100000; decide) _ (Ex.refl _) _ fun T H5 hT e5 h5 => ?_
          · show V.int _ = V.int _
            congr 1
            simp only [Int.natCast_add, Int.natCast_mul, Int.zero_add]
          · refine hy _ _ e5 ?_
            rw [List.range_succ, List.map_append]
            exact (hR2.ex e5).snoc h5
        · intro H5 acc2 e5 hD5 hR2
          have hc : ((cs.getD j 0 : Nat) : Int).toNat = cs.getD j 0 := Int.toNat_natCast _
          rw [hc] at hR2
          have hl2 : acc2.length = cs.getD j 0 := by
            rw [← hR2.len, List.length_map, List.length_range]
          have hp5 : H5 p = some (.lst acc) := e5 p _ hpA
          refine ⟨p, D2, acc, acc2, rfl, rfl, hp5, hD5, Nat.le_trans (show acc.length + acc2.length ≤ 20000 by omega) (by decide), ?_⟩
          have p0 : H p = none := hp
          refine s_aug (f := fun i j => i + j) (a := ((f + Sh.tot (cs.drop (j + 1)) (2 ^ (j + 1)) : Nat) : Int)) (b := ((2 ^ j : Nat) : Int) * ((cs.getD j 0 : Nat) : Int)) rfl (ev_op (ev_var rfl) (ev_var rfl) (rv_I (.inr ⟨by omega, by omega⟩))) fun H6 e6 => ?_
          have nDp : D ≠ p := Ne.symm npD
          refine ⟨some (.int (cs.getD j 0 : Nat)), some (.int ((2 ^ j : Nat) : Int)), y8, acc ++ acc2, ?_, (Ex.mut (exA.trans e5) p0).trans e6, ?_, ?_, e6 p _ upd_same, ?_⟩
          · rw [ej2, tj]
            have e9 : ((f + (Sh.tot (cs.drop (j + 1)) (2 ^ (j + 1)) + 2 ^ j * cs.getD j 0) : Nat) : Int) = ((f + Sh.tot (cs.drop (j + 1)) (2 ^ (j + 1)) : Nat) : Int) + ((2 ^ j : Nat) : Int) * ((cs.getD j 0 : Nat) : Int) := by
              simp only [Int.natCast_add, Int.natCast_mul]
              omega
            rw [e9]
            rfl
          · refine e6 D _ ?_
            rw [upd_ne nDp]
            exact e5 D _ hDA
          · exact ((hRA.ex e5).upd hp5).ex e6
          · rw [ej2, sj]
            exact Paired.app (((hSA.ex e5).upd hp5).ex e6) ((hR2.upd hp5).ex e6)
      · intro σ' Hz hPv
        obtain ⟨y5, y7, y8, acc, rfl, exZ, hDZ, hRZ, hpZ, hSZ⟩ := hPv
        rw [hrl, Nat.sub_self] at hSZ
        refine ⟨.ref p, rfl, p, acc, rfl, .inl ⟨SqL.of hpZ, fun q hq => ?_⟩⟩
        refine kk q acc _ (fresh_back exZ hq) (exZ.trans (Ex.new hq)) upd_same ?_
        have e : Sh.shp k f l = Sh.sh f (cs.drop 0) (2 ^ 0) := by
          unfold Sh.shp
          rw [hcs]
          rfl
        rw [e]
        exact hSZ.ex (Ex.new hq)
end
end K13
namespace K13
open PySem PySem.Spec PyProof.Rows L2 GxR Pu Evl
theorem scFirstOf : FnScope ["some", "laid"] ["some", "laid"] (defScope sFirstOf) := ⟨rfl, rfl, rfl, by decide +kernel, rfl, by decide +kernel, by decide +kernel⟩
structure Base (P : Program) (w : World) (K : PySem.W.Frag) (mg : Str → Option Value) (base : Heap) (fNN fNK fSF : Addr) (dNN dNK dSF : FuncData) : Prop where
  nn : FnOk P w K mg base CX0 3 fNN dNN ["value"] (spV pNat)
  nk : FnOk P w K mg base CX0 3 fNK dNK ["keep"] (spV pKeep)
  sf : FnOk P w K mg base CX0 5 fSF dSF ["keep", "first", "laid"] (spSh pShape)
section
variable {P : Program} {w : World} {K : PySem.W.Frag} {mg : Str → Option Value} {base : Heap}
variable {fInt fNum fSeq fPar fNN fIK fNK fCO fSF fNR fSh fSt fIS fFO fLS fLG fSA fFB : Addr} {dInt dNum dSeq dPar dNN dIK dNK dCO dSF dNR dSh dSt dIS dFO dLS dLG dSA dFB : FuncData}
def pFirst (K : PySem.W.Frag) : List V → Hp → V → Prop := fun vs H v => ∃ (L : List (Nat × Nat)) (l : Nat) (x : V), vs = [x, .int l] ∧ ShIn K H L x ∧ L.length ≤ 10000 ∧ v = .int (Sh.firstOf L l : Nat)
theorem ok_first_of {f : Addr} {fd : FuncData} (G : Mg mg) (F : Fun K "first_of" "first_of" sFirstOf f fd) : FnOk P w K mg base CX0 1 f fd ["some", "laid"] (spV (pFirst K)) := by
  refine F.ok scFirstOf (fun vs H Q E h => ?_) (fun cdv A outer s H vs Q E hr h => ?_)
  · obtain ⟨v, ⟨L, l, x, rfl, _⟩, _⟩ := h
    rfl
  · obtain ⟨v, ⟨L, l, x, rfl, ⟨a, xs, rfl, hq, hp⟩, hz, rfl⟩, kk⟩ := h
    refine ⟨_, pss_one (ps_ret (pe_ifExp (pt_cmpR op_gt (pe_callB call_len (by rfl) G.len boot_len (pa_cons (pv 0) pa_nil)) pe_int (nomark _)) (pe_ix ix_seq (pe_ix ix_seq (pv 0) pe_int (fun _ _ => rfl)) pe_int (fun _ _ => rfl)) (pv 1))), ?_⟩
    have hl : L.length = xs.length := Paired.length hp
    refine ⟨.ref a, rfl, .ref a, xs.length, rfl, hq.elim (fun q => .inr ⟨xs, q, rfl⟩) (fun q => .inl ⟨xs, q, rfl⟩), (xs.length : Int), 0, rfl, rfl, _, rfl, ?_⟩
    cases hp with
    | nil =>
      refine (ite2 (fun z => ?_) fun _ => ⟨_, rfl, kk H (Ex.refl H)⟩)
      exact absurd z (by simp)
    | @cons p v L xs r t =>
      obtain ⟨b, rfl, hb⟩ := r
      refine (ite2 (fun _ => ?_) fun z => ?_)
      · have i0 : atI (V.ref b :: xs) ((0 : Nat) : Int) = some (V.ref b) := atI_nat rfl
        have i1 : atI [V.int (p.1 : Nat), V.int (p.2 : Nat)] ((0 : Nat) : Int) = some (V.int (p.1 : Nat)) := atI_nat rfl
        have fin : rIx K (V.ref b) (V.int 0) H fun v H' => Q v H' := by
          rcases hb with q | q
          · exact .inr (.inl ⟨b, _, 0, _, rfl, rfl, q, i1, kk H (Ex.refl H)⟩)
          · exact .inl ⟨b, _, 0, _, rfl, rfl, q, i1, kk H (Ex.refl H)⟩
        rcases hq with q | q
        · exact ⟨.ref a, rfl, .inr (.inl ⟨a, _, 0, _, rfl, rfl, q, i0, fin⟩)⟩
        · exact ⟨.ref a, rfl, .inl ⟨a, _, 0, _, rfl, rfl, q, i0, fin⟩⟩
      · exact absurd (decide_eq_true (show (0 : Int) < (((V.ref b :: xs).length : Nat) : Int) by rw [List.length_cons]; omega)) z
def hasRow (r : Nat) (p : Nat × Nat) : Bool := decide (p.1 ≤ r) && decide (r < p.1 + p.2)
end
theorem scIsShape : FnScope ["keep", "laid", "value", "some", "first", "stretch"] ["keep", "laid", "value"] (defScope sIsShape) := ⟨rfl, rfl, rfl, by decide +kernel, rfl, by decide +kernel, by decide +kernel⟩
def spIsShape (K : PySem.W.Frag) (T : Addr) : Sp := fun vs H Q _ => ∃ (k f l : Nat) (x : V), vs = [.int k, .int l, x] ∧ 2 ≤ k ∧ k ≤ 8 ∧ f ≤ l ∧ l ≤ 10000 ∧ ShIn K H (Sh.shp k f l) x ∧ TabG H T ∧ ∀ H', ExT T H H' → Q (.bl true) H'
section
variable {P : Program} {w : World} {K : PySem.W.Frag} {mg : Str → Option Value} {base : Heap} {T c : Addr}
variable {fInt fNum fSeq fPar fNN fIK fNK fCO fSF fNR fSh fSt fIS fFO fLS fLG fSA fFB : Addr} {dInt dNum dSeq dPar dNN dIK dNK dCO dSF dNR dSh dSt dIS dFO dLS dLG dSA dFB : FuncData}
theorem all_true (n : Nat) : (List.range n).all (fun _ => true) = true := by simp
theorem ok_is_shape {f : Addr} {fd : FuncData} (M : L2.Mod K mg base) (G : Mg mg) (F : FunC K "is_shape" "is_shape" sIsShape f fd c) (TB : TabB base mg c T) (B : Base P w K mg base fNN fNK fSF dNN dNK dSF)
    (F1 : Fns K mg "need_keep" ["keep"] sNeedKeep fNK dNK) (F2 : Fns K mg "need_number" ["value"] sNeedNumber fNN dNN) (F3 : Fns K mg "shape_from" ["keep", "first", "laid"] sShapeFrom fSF dSF)
    (F4 : Fns K mg "is_sequence" ["value"] sIsSequence fSeq dSeq) (F5 : Fns K mg "is_stretch" ["value"] sIsStretch fSt dSt) (G5 : PF P w K mg base 3 fSt dSt ["value"] pStretch) (F6 : Fns K mg "first_of" ["some", "laid"] sFirstOf fFO dFO) (G6 : FnOk P w K mg base CX0 1 fFO dFO ["some", "laid"] (spV (pFirst K))) :
    FnOk P w K mg base CX0 6 f fd ["keep", "laid", "value"] (spIsShape K T) := by
  have G4 : FnOk P w K mg base CX0 1 fSeq dSeq ["value"] (spPure P w base ["value"] pSequence) := (pf_is_sequence M G F4.fn).ok
  refine F.ok scIsShape (fun vs H Q E h => ?_) (fun A outer s H vs Q E hr h => ?_)
  · obtain ⟨k, f, l, x, rfl, _⟩ := h
    rfl
  · obtain ⟨k, f, l, x, rfl, h2, h8, hfl, hl, ⟨a, xs, rfl, hq, hp⟩, ht, kk⟩ := h
    have hu : A.units + 3 + 64 < cLine := hr.units
    refine ⟨_, pss_cons (ps_expr (pe_call B.nk (hr.mono (by decide)) (by rfl) F1.mg F1.fn.kp F1.bd .nil pass0 (pa_cons (pv 0) pa_nil)))
      (pss_cons (ps_expr (pe_call B.nn (hr.mono (by decide)) (by rfl) F2.mg F2.fn.kp F2.bd .nil pass0 (pa_cons (pv 1) pa_nil)))
      (pss_cons (ps_if (PW.pt (pw_or (pt_not (pt_val (pe_call G4 (hr.mono (by decide)) (by rfl) F4.mg F4.fn.kp F4.bd .nil pass0 (pa_cons (pv 2) pa_nil))))
          (pw_or1 (pt_not (pt_val (pe_allQ (k := 3) (T := T) (c := c) (hr.mono (by decide)) (by rfl) G.all TB rfl (GenS.of rfl rfl (by decide +kernel) rfl rfl (by decide +kernel)) (pv 2)))))))
        (pss_one (ps_ret pe_bl)) pss_nil)
      (pss_cons (ps_set (i := 3) scIsShape.nd rfl (.inl rfl) (pe_callTy call_tuple_of (by rfl) G.tuple (by decide +kernel) (pa_cons
          (pe_lc (own := [("stretch", 5)]) (te := tCB (rTupleOf K) (tCons (tVar 5) tNil)) (by rfl) scIsShape.nd (pi_seq (pv 2))
            (blkOk_by (own := [("stretch", 5)]) (N := ["keep", "laid", "value", "some", "first", "stretch"]) (sc := defScope sIsShape) (by decide +kernel))
            (fun _ _ _ _ _ => pg_name (i := 5) scIsShape.nd rfl (.inl rfl)) (fun _ _ _ _ _ => pts_nil)
            (fun _ _ _ _ _ => pe_callTy (T := "tuple") call_tuple_of (by rfl) G.tuple (by decide +kernel) (pa_cons (pv 5) pa_nil))) pa_nil)))
      (pss_cons (ps_set (i := 4) scIsShape.nd rfl (.inl rfl) (pe_call G6 (hr.mono (by decide)) (by rfl) F6.mg F6.fn.kp F6.bd .nil pass0 (pa_cons (pv 3) (pa_cons (pv 1) pa_nil))))
      (pss_one (ps_ret (pe_and (pe_cmpR op_le (pv 4) (pv 1) (nomark _)) (pe_one (pe_cmpR (op_eqD hu) (pv 3) (pe_call B.sf hr (by rfl) F3.mg F3.fn.kp F3.bd .nil pass0 (pa_cons (pv 0) (pa_cons (pv 4) (pa_cons (pv 1) pa_nil)))) (nomark _)))))))))), ?_⟩
    have hlen : (Sh.shp k f l).length = xs.length := Paired.length hp
    have hzl : (Sh.shp k f l).length ≤ 10000 := Nat.le_trans (Sh.shp_len h2) (by omega)
    refine q_drop (v := .non) (ev_call (ea_cons (ev_var rfl) ea_nil) (spV.use fun H1 _ => ⟨k, rfl, by omega, by omega, rfl⟩)) fun H1 e1 => ?_
    refine q_drop (v := .non) (ev_call (ea_cons (ev_var rfl) ea_nil) (spV.use fun H1 _ => ⟨l, rfl, by omega, rfl⟩)) fun H2 e2 => ?_
    have hq2 : SqE K H2 a xs := (hq.ex e1).ex e2
    have hp2 : PrIn K H2 (Sh.shp k f l) xs := (hp.ex e1).ex e2
    have ht2 : TabG H2 T := TabG.ex (TabG.ex ht e1) e2
    have t1 : EvT (tNot (tB (tCall (spPure P w base ["value"] pSequence) [] E0 (tCons (tVar 2) tNil)))) (start ["keep", "laid", "value", "some", "first", "stretch"] [.int k, .int l, .ref a]) H2 (!true) :=
      et_not (et_B (ev_call (ea_cons (ev_var rfl) ea_nil) (spPure.use rfl fun H1 e h ok bx => by
        obtain ⟨bb, its, rv, sq⟩ := TyG.of_sq ok (M.kin.keeps bx) (hq2.ex e)
        exact ⟨_, _, rfl, TyG.seq sq, by cases bb <;> rfl⟩)))
    refine q_ifOrF t1 fun H3 e3 => ?_
    have hq3 := hq2.ex e3
    have hp3 := hp2.ex e3
    have ht3 := TabG.ex ht2 e3
    refine ⟨.ref a, rfl, a, xs, fun _ => true, rfl, hq3, ht3, ?_, fun H4 t4 => ?_⟩
    · intro B' cenv g i v u hrm hs hg hb hx hn hi rv ok
      obtain ⟨m, ns, hm⟩ := hn
      have FR : FrP K mg base B' cenv g := ⟨M, hx, by rw [hs], hg, hb, hrm.hd⟩
      obtain ⟨p, hp1, b, rfl, hb1⟩ := Paired.at hp3 hi
      obtain ⟨bb, its, rvs, sq⟩ := seq_at ht3 ok (M.kin.keeps hx) hb1
      obtain ⟨u0, u1, rfl, r0, r1⟩ := vals2 rvs
      have st : StG g (.ref b) (isNum (.int (p.1 : Nat)) && isNum (.int (p.2 : Nat))) := .two sq r0 r1 (.int _) (.int _)
      have st2 : StG g (.ref b) true := by
        have z : (isNum (.int (p.1 : Nat)) && isNum (.int (p.2 : Nat))) = true := by
          rw [show isNum (.int (p.1 : Nat)) = decide (((p.1 : Nat) : Int) ≥ 0) from rfl, show isNum (.int (p.2 : Nat)) = decide (((p.2 : Nat) : Int) ≥ 0) from rfl, decide_eq_true (by omega), decide_eq_true (by omega)]
          rfl
        rw [← z]
        exact st
      have val : ∀ {pos : Pos}, EV P w B' cenv g (.Name "stretch" pos) (.ref b) := ev_loc FR (by show cenv.scope.names.lookup _ = _; rw [hs]; rfl) ns hm rv
      exact ev_pf FR G5 hrm (by show cenv.scope.names.lookup _ = _; rw [hs]; rfl) F5.mg F5.fn.kp F5.bd (ea_cons val ea_nil) rfl fun h e => ⟨_, _, rfl, st2.mono e, rfl⟩
    refine ⟨_, rfl, ite2 (fun z => absurd z (by rw [all_true]; decide)) fun _ => ?_⟩
    have x34 : ExT T H3 H4 := ExT.of_tab t4
    have hq4 := hq3.exT ht3 x34
    have hp4 := hp3.exT ht3 x34
    have x4 : ExT T H H4 := ExT.ex' ((e1.trans e2).trans e3) x34
    refine ⟨.ref a, rfl, a, xs, rfl, hq4, fun J Gd wk hG D hD => ?_⟩
    refine lc_gen wk (fun i H acc => PrS K H ((Sh.shp k f l).take i) acc) (by omega) hD (fun i H xs ys acc h r => PrS.upd r h) .nil hG ?_ ?_
    · intro i x Ha Hb acc hi ex y hR Qy Qn hy hn
      obtain ⟨rfl, hx⟩ := y
      obtain ⟨p, hpL, b, rfl, hb⟩ := Paired.at hp4 hx
      have tk : (Sh.shp k f l).take (i + 1) = (Sh.shp k f l).take i ++ [p] := by rw [List.take_add_one, hpL]; rfl
      refine ⟨rfl, yes_then ⟨.ref b, rfl, b, [.int (p.1 : Nat), .int (p.2 : Nat)], rfl, ?_⟩⟩
      rcases hb with q | q
      · refine .inr ⟨ex_t ex q, hy _ _ (Ex.refl _) ?_⟩
        rw [tk]
        exact hR.snoc (ex_t ex q)
      · refine .inl ⟨ex_l ex q, fun r hr => hy _ _ (Ex.new hr) ?_⟩
        rw [tk]
        exact (hR.ex (Ex.new hr)).snoc (SqT.of upd_same)
    · intro H5 acc e5 hD5 hR
      rw [hlen.symm, List.take_length] at hR
      refine ⟨D, acc, rfl, .inl ⟨SqL.of hD5, fun q hq => ?_⟩⟩
      have hR6 := hR.ex (Ex.new (p := q) (o := .tup acc) hq)
      have sq6 : SqT K (upd H5 q (.tup acc)) q acc := SqT.of upd_same
      have x6 : ExT T H (upd H5 q (.tup acc)) := x4.ex (e5.trans (Ex.new hq))
      refine ⟨_, rfl, _, rfl, .int (f : Nat), ⟨Sh.shp k f l, l, .ref q, rfl, ⟨q, acc, rfl, .inl sq6, hR6.in⟩, hzl, by rw [Sh.firstOf_sh h2 hfl]⟩, fun H6 e6 => ?_⟩
      refine ⟨.int (f : Nat), rfl, .int (l : Nat), rfl, f, l, rfl, rfl, decide ((f : Int) ≤ (l : Int)), rfl, ite2 (fun _ => ?_) fun z => absurd (decide_eq_true (by omega)) z⟩
      refine ⟨.ref q, rfl, _, rfl, _, rfl, _, rfl, Sh.shp k f l, ⟨k, f, l, rfl, h2, h8, hfl, hl, rfl⟩, fun p ys H7 hp7 e7 h7 hP => ?_⟩
      refine ⟨dShape (Sh.shp k f l), dShape (Sh.shp k f l), dpShape (ex_t (e6.trans e7) sq6) (hR6.ex (e6.trans e7)), dpShape (SqT.of h7) hP.s, shape_shaped _, shape_shaped _, ?_⟩
      rw [shape_eqv]
      exact kk H7 (x6.ex (e6.trans e7))
end
end K13
set_option Elab.async false
set_option linter.all false
set_option maxRecDepth 100000
set_option maxHeartbeats 4000000
/-! Pure defs of several statements. -/
namespace Pu
open PySem PySem.Spec PyProof.Rows L2
/-- from any heap over g the expression gives what R tells, and what stood stays -/
def EVR (P : Program) (w : World) (A : Around) (env : Env) (g : Heap) (e : Expr) (R : Value → Heap → Prop) : Prop :=
  ∀ (s : Shared) (Q : Value → Shared → Prop) (E : Value → Shared → Prop), Ext g s.heap →
    (∀ u h' tk, R u h' → Ext s.heap h' → Q u { s with heap := h', toks := tk }) → wpAny (model P w) A (eval e env) Q E s
/-- a test -/
def EVT (P : Program) (w : World) (A : Around) (env : Env) (g : Heap) (e : Expr) (b : Bool) : Prop :=
  ∀ (s : Shared) (whole : Sem Value) (Q : Bool → Shared → Prop) (E : Value → Shared → Prop), whole = eval e env → Ext g s.heap →
    (∀ h' tk, Ext s.heap h' → Q b { s with heap := h', toks := tk }) → wpAny (model P w) A (isTrue e env whole) Q E s
/-- what is known stays, whatever the locals' own object becomes -/
def St (env : Env) (W : Heap → Prop) : Prop := ∀ h h', W h → (∀ b o, b ≠ env.locals → h.get? b = some o → h'.get? b = some o) → W h'
/-- statements; m the locals; W what is known of the heap -/
def ES (P : Program) (w : World) (A : Around) (env : Env) (W : Heap → Prop) (m : Str → Option Value) (l : List Stmt) (R : Value → Heap → Prop) : Prop :=
  ∀ (s : Shared) (Q : Flow → Shared → Prop) (E : Value → Shared → Prop), W s.heap → s.heap.Ns env.locals m →
    (∀ u h' tk, R u h' → W h' → Q (.ret u) { s with heap := h', toks := tk }) → wpAny (model P w) A (execs l env) Q E s
/-- targets -/
def EU (P : Program) (w : World) (A : Around) (env : Env) (W : Heap → Prop) (m : Str → Option Value) (es : List Expr) (its : List Value) (m' : Str → Option Value) : Prop :=
  ∀ (s : Shared) (Q : Unit → Shared → Prop) (E : Value → Shared → Prop), W s.heap → s.heap.Ns env.locals m →
    (∀ h' tk, W h' → h'.Ns env.locals m' → Q () { s with heap := h', toks := tk }) → wpAny (model P w) A (assignInOrder ((assignEach es env).map (·.2)) its) Q E s
/-- m with x told -/
def put (m : Str → Option Value) (x : Str) (u : Value) : Str → Option Value := fun y => if y = x then some u else m y
theorem put_eq {m : Str → Option Value} {x : Str} {u : Value} : put m x u x = some u := if_pos rfl
theorem put_ne {m : Str → Option Value} {x y : Str} {u v : Value} (h : m y = some v) (n : y ≠ x) : put m x u y = some v := (if_neg n).trans h
section
variable {P : Program} {w : World} {K : PySem.W.Frag} {mg : Str → Option Value} {base : Heap} {A : Around} {env : Env} {g : Heap} {m : Str → Option Value} {R : Value → Heap → Prop} {W : Heap → Prop}
theorem EV.r {e : Expr} {v : V} (h : EV P w A env g e v) : EVR P w A env g e (fun u _ => RelV v u) := h
theorem et_val {e : Expr} {b : Bool} (h : EV P w A env g e (.bl b)) (he : ∀ whole, isTrue e env whole = (do let v ← whole; standAt e.pos; holding [v] (truthy v)) := by intro _; rfl) : EVT P w A env g e b := fun s whole Q E hw hx hQ => by
  subst hw
  refine wpAny_isTrue_value (h s _ E hx fun u h' tk r hk => ?_) (he _)
  cases (show u = Value.bool b from r)
  exact wpAny_truthy_bool (hQ h' tk hk)
theorem et_not {e : Expr} {pos : Pos} {b : Bool} (h : EVT P w A env g e b) : EVT P w A env g (.UnaryOp .Not e pos) (!b) := fun s whole Q E hw hx hQ =>
  wpAny_isTrue_Not (h s _ _ E rfl hx fun h' tk hk => hQ h' tk hk)
theorem et_or1 {e : Expr} {pos : Pos} {b : Bool} (h : EVT P w A env g e b) : EVT P w A env g (.BoolOp .Or [e] pos) b := fun s whole Q E hw hx hQ => by
  refine wpAny_isTrue_BoolOp (wpAny_allTrue_Or_cons (h s _ _ E rfl hx fun h' tk hk => ?_))
  cases b with
  | true => exact hQ h' tk hk
  | false => exact wpAny_allTrue_Or_nil (hQ h' tk hk)
theorem et_or {a b : Expr} {rest : List Expr} {pos : Pos} {x y : Bool} (ha : EVT P w A env g a x) (hb : x = false → EVT P w A env g (.BoolOp .Or (b :: rest) pos) y) : EVT P w A env g (.BoolOp .Or (a :: b :: rest) pos) (x || y) := fun s whole Q E hw hx hQ => by
  refine wpAny_isTrue_BoolOp (wpAny_allTrue_Or_cons (ha s _ _ E rfl hx fun h' tk hk => ?_))
  cases x with
  | true => exact hQ h' tk hk
  | false =>
    have := hb rfl { s with heap := h', toks := tk } (eval (.BoolOp .Or (b :: rest) pos) env) Q E rfl (fun b o e => hk b o (hx b o e)) fun h2 t2 k2 => hQ h2 t2 fun b o e => k2 b o (hk b o e)
    rw [arm_isTrue_BoolOp] at this
    exact this
theorem et_cmpI {op : CmpOp} {a b : Expr} {pos : Pos} {i j : Int} {r : Bool} (ha : EV P w A env g a (.int i)) (hb : EV P w A env g b (.int j))
    (hc : ∀ (s : Shared) (t t' : Nat) (Q : Value → Shared → Prop) (E : Value → Shared → Prop), Q (.bool r) s → wpAny (model P w) A (compareOp op (.int i t) (.int j t')) Q E s)
    (hm : behindInMarks op b = false := by first | exact nobehind _ (by decide) (by decide) | rfl) : EVT P w A env g (.Compare a [op] [b] pos) r := fun s whole Q E hw hx hQ => by
  refine wpAny_isTrue_Compare1 (ha s _ E hx fun u h' tk ru hk => ?_) hm
  refine hb { s with heap := h', toks := tk } _ E (fun b o e => hk b o (hx b o e)) fun u2 h2 t2 r2 k2 => ?_
  obtain ⟨t, rfl⟩ := ru
  obtain ⟨t', rfl⟩ := r2
  exact hc _ _ _ _ _ (wpAny_truthy_bool (hQ h2 t2 fun b o e => k2 b o (hk b o e)))
theorem St.ex (S : St env W) {h h' : Heap} (x : W h) (k : Ext h h') : W h' := S h h' x fun b o _ e => k b o e
theorem St.over (hL : g.get? env.locals = none) : St env (fun h => Ext g h) := fun h h' x k b o e => k b o (fun z => by rw [z, hL] at e; cases e) (x b o e)
theorem St.and {V : Heap → Prop} (S : St env W) (T : St env V) : St env (fun h => W h ∧ V h) := fun h h' x k => ⟨S h h' x.1 k, T h h' x.2 k⟩
theorem es_ret {e : Expr} {pos : Pos} (S : St env W) (h : ∀ h1, W h1 → h1.Ns env.locals m → EVR P w A env h1 e R) : ES P w A env W m [.Return (some e) pos] R := fun s Q E hx hn hQ =>
  wpAny_execs_cons (wpAny_Return_some (h s.heap hx hn s _ E (fun _ _ e => e) fun u h' tk r k => hQ u h' tk r (S.ex hx k)))
theorem es_if {test : Expr} {body rest : List Stmt} {pos : Pos} {b : Bool} (S : St env W) (ht : ∀ h1, W h1 → h1.Ns env.locals m → EVT P w A env h1 test b) (hY : b = true → ES P w A env W m body R) (hn : b = false → ES P w A env W m rest R) :
    ES P w A env W m (.If test body [] pos :: rest) R := fun s Q E hx hns hQ => by
  refine wpAny_execs_cons (wpAny_If (ht s.heap hx hns s _ _ E rfl (fun _ _ e => e) fun h' tk hk => ?_))
  have hn2 := hns.keeps hk
  cases b with
  | true => exact hY rfl { s with heap := h', toks := tk } _ E (S.ex hx hk) hn2 fun u h2 t2 r k => hQ u h2 t2 r k
  | false => exact wpAny_execs_nil (hn rfl { s with heap := h', toks := tk } Q E (S.ex hx hk) hn2 fun u h2 t2 r k => hQ u h2 t2 r k)
theorem es_set {x : Str} {e : Expr} {p pos : Pos} {rest : List Stmt} {R1 : Value → Heap → Prop} (S : St env W) (hl : env.kindOf x = some .local) (hk : env.scope.kind = .function)
    (he : ∀ h1, W h1 → h1.Ns env.locals m → EVR P w A env h1 e R1) (hR : ∀ u, St env (R1 u)) (hm : ∀ u, ES P w A env (fun h => W h ∧ R1 u h) (put m x u) rest R)
    (hsw : swapsWith e (some (.Name x p)) pos.line env = pure false := by rfl) : ES P w A env W m (.Assign [.Name x p] e pos :: rest) R := fun s Q E hx hn hQ => by
  refine wpAny_execs_cons (wpAny_Assign_Name (he s.heap hx hn s _ E (fun _ _ e => e) fun u h' tk r hk2 => ?_) hsw)
  refine wpAny_storeName_local hl (hn.keeps hk2) (fun h3 ns3 same => ?_) (by rw [hk]; rfl)
  have st : ∀ b o, b ≠ env.locals → h'.get? b = some o → h3.get? b = some o := fun b o hb e => same.extBut b o hb e
  exact hm u { s with heap := h3, toks := tk + 1 } Q E ⟨S _ _ (S.ex hx hk2) st, hR u _ _ r st⟩ ns3 fun u h2 t2 r k => hQ u h2 t2 r k.1
theorem eu_nil : EU P w A env W m [] [] m := fun s Q E hx hn hQ => wpAny_assignInOrder_none (hQ s.heap s.toks hx hn)
theorem eu_cons {x : Str} {p : Pos} {es : List Expr} {u : Value} {its : List Value} {m' : Str → Option Value} (S : St env W) (hl : env.kindOf x = some .local) (hk : env.scope.kind = .function)
    (h : EU P w A env W (put m x u) es its m') (he : (assignEach (.Name x p :: es) env).map (·.2) = assign (.Name x p) env :: (assignEach es env).map (·.2) := by rfl) : EU P w A env W m (.Name x p :: es) (u :: its) m' := fun s Q E hx hn hQ => by
  rw [he]
  refine wpAny_assignInOrder_more (wpAny_assign_Name (wpAny_storeName_local hl hn (fun h' ns' same => ?_) (by rw [hk]; rfl)))
  exact h { s with heap := h', toks := s.toks + 1 } Q E (S _ _ hx fun b o hb e => same.extBut b o hb e) ns' fun h2 t2 k n => hQ h2 t2 k n
theorem es_unpack {val : Expr} {es : List Expr} {k : Nat} {p pos : Pos} {rest : List Stmt} {a : Addr} {b : Bool} {its : List Value} {m' : Str → Option Value} (S : St env W) (hd : A.handled = none)
    (hv : ∀ h1, W h1 → h1.Ns env.locals m → EV P w A env h1 val (.ref a)) (hq : ∀ h1, W h1 → SeqG h1 b a its) (hu : EU P w A env W m es its m') (hr : ES P w A env W m' rest R)
    (hn : (assignEach es env).length = its.toArray.size) (hst : (assignEach es env).findIdx? (·.1) = none := by rfl)
    (hs : swapsWithSole [.Tuple es k p] val pos.line env = pure false := by rfl) (hw : swappedStores [.Tuple es k p] val env = pure none := by rfl)
    (h1 : (assignEach [.Tuple es k p] env).map (·.2) = [assign (.Tuple es k p) env] := by rfl) : ES P w A env W m (.Assign [.Tuple es k p] val pos :: rest) R := fun s Q E hx hns hQ => by
  refine wpAny_execs_cons (wpAny_Assign_stores (hv s.heap hx hns s _ E (fun _ _ e => e) fun u h' tk r hk => ?_) hs hw)
  cases (show u = Value.ref a from r)
  rw [h1]
  have main : wpAny (model P w) A (assign (.Tuple es k p) env (.ref a)) (fun _ s3 => wpAny (model P w) A (execs rest env) Q E s3) E { s with heap := h', toks := tk } := by
    have after : ∀ h3, Heap.ExtBut h'.objs.size h' h3 → wpAny (model P w) A (assignInOrder ((assignEach es env).map (·.2)) its.toArray.toList) (fun _ s3 => wpAny (model P w) A (execs rest env) Q E s3) E { s with heap := h3, toks := tk } := fun h3 hx3 => by
      have k3 : Ext h' h3 := fun b o e => hx3 b o (Nat.ne_of_lt (Heap.lt_size e)) e
      refine hu { s with heap := h3, toks := tk } _ E (S.ex (S.ex hx hk) k3) ((hns.keeps hk).keeps k3) fun h4 t4 k4 n4 => ?_
      exact hr { s with heap := h4, toks := t4 } Q E k4 n4 fun u h2 t2 r k => hQ u h2 t2 r k
    have hq' := hq h' (S.ex hx hk)
    cases b with
    | true =>
      have t : IsTup h' a its.toArray := hq'.2
      exact wpAny_assign_Tuple (s := { s with heap := h', toks := tk }) hd t hn hst after
    | false =>
      have t : PlainL h' a its.toArray := hq'.2
      rw [PyProof.Rows.assign_Tuple]
      refine wpAny_bind (wpAny_standAt ?_)
      unfold unpack
      rw [hn, hst]
      exact wpAny_bind (wpAny_holding (PySem.W.kun_itemsOf hd t.isList after))
  exact main
/-- a pure def: what it gives is told by a relation -/
structure PFR (P : Program) (w : World) (K : PySem.W.Frag) (mg : Str → Option Value) (base : Heap) (k : Nat) (f : Addr) (fd : FuncData) (ps : List Str) (sp : List V → Heap → (Value → Heap → Prop) → Prop) : Prop where
  run : ∀ (A : Around) (s : Shared) (args : Args) (us : List Value) (vs : List V) (S : Value → Heap → Prop) (R : Result → Shared → Prop), Room k A → Ext base s.heap → BindsTo s fd args (ps.zip us) → Vals vs us → vs.length = ps.length → sp vs s.heap S →
    (∀ u h' tk, S u h' → Ext s.heap h' → R (.ok (.ret u)) { s with heap := h', toks := tk }) → codeAny (model P w) A (.call (.ref f) args) R s
theorem PFR.pf {k : Nat} {f : Addr} {fd : FuncData} {ps : List Str} {sp : List V → Heap → V → Prop} (F : PFR P w K mg base k f fd ps fun vs h S => ∃ v, sp vs h v ∧ S = fun u _ => RelV v u) : PF P w K mg base k f fd ps sp :=
  ⟨fun A s args us vs v R hr hb hbi hv hl hs hR => F.run A s args us vs _ R hr hb hbi hv hl ⟨v, hs, rfl⟩ hR⟩
/-- a pure def of the text, of several statements -/
theorem pf_body {x qual : Str} {st : Stmt} {f : Addr} {fd : FuncData} {N ps : List Str} {k : Nat} {sp : List V → Heap → (Value → Heap → Prop) → Prop} (M : L2.Mod K mg base) (Fn : Fun K x qual st f fd) (S : FnScope N ps (defScope st))
    (hloc : ∀ y ∈ ps, (defScope st).names.lookup y = some .local)
    (hbody : ∀ (cdv : Value) (A : Around) (L : Addr) (g : Heap) (us : List Value) (vs : List V) (T : Value → Heap → Prop) (m : Str → Option Value), Room k A → Ext base g → Vals vs us → vs.length = ps.length → sp vs g T → g.get? L = none →
      (∀ (i : Nat) (y : Str) (u : Value), ps[i]? = some y → us[i]? = some u → m y = some u) → ES P w A (envOfC qual (defScope st) L f cdv) (fun h => Ext g h) m (defBody st) T) : PFR P w K mg base (k + 1) f fd ps sp := by
  obtain ⟨oc, od, kV, doc, pm, an, cdv, ct, osl, rfl, lk, hcd⟩ := Fn.ex
  refine ⟨fun A s args us vs T R hr hbs hb r hl hsp hR => ?_⟩
  have KX : K.In s.heap := M.kin.keeps hbs
  have lim : s.heap.NoLimit := M.nolimit.keeps hbs
  have ndP : ps.Nodup := by rw [← S.pre]; exact S.nd.sublist (List.take_sublist _ _)
  refine codeAny_call_function hr.depth (KX _ _ lk) rfl S.co S.gen rfl (PySem.W.codeRec_of KX hcd) (hb _ _ _ _ ?_)
  refine wpAny_newFunctionEnv_cells S.kind (fun ⟨n, z⟩ hy => .inl (hloc n (List.of_mem_zip hy).1)) fun env he s1 X => ?_
  subst he
  obtain ⟨h1, tk, e1, hk1⟩ := X.done
  refine ⟨lim.keeps X.toInCall.keep, codeAny_func ?_⟩
  have hns := X.toInCall.ns
  subst e1
  have fresh : s.heap.get? s.heap.objs.size = none := by
    cases z : s.heap.get? s.heap.objs.size with
    | none => rfl
    | some o => exact absurd (Heap.lt_size z) (Nat.lt_irrefl _)
  refine hbody cdv _ s.heap.objs.size s.heap us vs T _ (hr.deeper _) hbs r hl hsp fresh (fun i y u h2 h3 => bindL_get ndP h2 h3 (hloc y (List.mem_of_getElem? h2))) _ _ _ hk1 hns fun u h' t' rv k' => ?_
  exact hR u h' t' rv k'
end
end Pu
set_option Elab.async false
set_option linter.all false
set_option maxRecDepth 100000
set_option maxHeartbeats 4000000
/-! Pure expressions, more of them. -/
namespace Pu
open PySem PySem.Spec PyProof.Rows L2
section
variable {P : Program} {w : World} {K : PySem.W.Frag} {mg : Str → Option Value} {base : Heap} {A : Around} {env : Env} {g : Heap}
/-- a name of the module -/
theorem ev_gc {x : Str} {pos : Pos} {u : Value} {v : V} (F : FrP K mg base A env g) (hg : env.kindOf x = some .globalImplicit) (hm : mg x = some u) (r : RelV v u) (hd : (x == ("__debug__" : Str)) = false := by decide) : EV P w A env g (.Name x pos) v := fun s Q E hx hQ => by
  have hbs : Ext base s.heap := fun b o e => hx b o (F.ext b o e)
  exact Calls.Name_function_global F.kind hg (Calls.loadGlobal_global (by rw [F.glob]; exact F.mod.glob.keeps hbs) hm (hQ u s.heap s.toks r fun _ _ e => e)) hd
theorem ev_neg {a : Expr} {pos : Pos} {i : Int} (ha : EV P w A env g a (.int i)) : EV P w A env g (.UnaryOp .USub a pos) (.int (-i)) := fun s Q E hx hQ => by
  refine UnaryOp_ (ha s _ E hx fun u h' tk r hk => ?_)
  obtain ⟨t, rfl⟩ := r
  exact neg_int (hQ _ h' _ ⟨_, rfl⟩ hk)
theorem ev_bin {op : Operator} {a b : Expr} {pos : Pos} {i j k : Int} (ha : EV P w A env g a (.int i)) (hb : EV P w A env g b (.int j))
    (hc : ∀ (s : Shared) (t t' : Nat) (Q : Value → Shared → Prop) (E : Value → Shared → Prop), (Q (.int k s.toks) { s with toks := s.toks + 1 }) → wpAny (model P w) A (binaryOp op (.int i t) (.int j t')) Q E s) : EV P w A env g (.BinOp a op b pos) (.int k) := fun s Q E hx hQ => by
  refine wpAny_BinOp (ha s _ E hx fun u h' tk ru hk => ?_)
  refine hb { s with heap := h', toks := tk } _ E (fun b o e => hk b o (hx b o e)) fun u2 h2 t2 r2 k2 => ?_
  obtain ⟨t, rfl⟩ := ru
  obtain ⟨t', rfl⟩ := r2
  exact hc _ _ _ _ _ (hQ _ h2 _ ⟨_, rfl⟩ fun b o e => k2 b o (hk b o e))
theorem ev_add {a b : Expr} {pos : Pos} {i j : Int} (ha : EV P w A env g a (.int i)) (hb : EV P w A env g b (.int j)) : EV P w A env g (.BinOp a .Add b pos) (.int (i + j)) := ev_bin ha hb fun _ _ _ _ _ q => add_int q
theorem ev_sub {a b : Expr} {pos : Pos} {i j : Int} (ha : EV P w A env g a (.int i)) (hb : EV P w A env g b (.int j)) : EV P w A env g (.BinOp a .Sub b pos) (.int (i - j)) := ev_bin ha hb fun _ _ _ _ _ q => sub_int q
theorem ev_mul {a b : Expr} {pos : Pos} {i j : Int} (hm : IntMulOk i j) (ha : EV P w A env g a (.int i)) (hb : EV P w A env g b (.int j)) : EV P w A env g (.BinOp a .Mult b pos) (.int (i * j)) := ev_bin ha hb fun _ _ _ _ _ q => mul_int q hm
theorem ev_and_ {a b : Expr} {pos : Pos} {i j : Int} (ha : EV P w A env g a (.int i)) (hb : EV P w A env g b (.int j)) : EV P w A env g (.BinOp a .BitAnd b pos) (.int (Builtin.bitAnd i j)) := ev_bin ha hb fun _ _ _ _ _ q => and_int q
theorem ev_gt {a b : Expr} {pos : Pos} {i j : Int} (ha : EV P w A env g a (.int i)) (hb : EV P w A env g b (.int j)) (hm : behindInMarks .Gt b = false := by first | exact nobehind _ (by decide) (by decide) | rfl) :
    EV P w A env g (.Compare a [.Gt] [b] pos) (.bl (decide (i > j))) := fun s Q E hx hQ => by
  refine wpAny_Compare1 (ha s _ E hx fun u h' tk r hk => ?_) hm
  refine hb { s with heap := h', toks := tk } _ E (fun b o e => hk b o (hx b o e)) fun u2 h2 t2 r2 k2 => ?_
  obtain ⟨t, rfl⟩ := r
  obtain ⟨t', rfl⟩ := r2
  exact gt_int (hQ _ h2 t2 rfl fun b o e => k2 b o (hk b o e))
/-- i <= j <= k -/
theorem ev_chain {a b c : Expr} {pos : Pos} {i j k : Int} (ha : EV P w A env g a (.int i)) (hb : EV P w A env g b (.int j)) (hc : EV P w A env g c (.int k))
    (hm : lastMarks [CmpOp.LtE, .LtE] [b, c] = false := by with_unfolding_all rfl) : EV P w A env g (.Compare a [.LtE, .LtE] [b, c] pos) (.bl (decide (i ≤ j) && decide (j ≤ k))) := fun s Q E hx hQ => by
  refine Compare_chain (ha s _ E hx fun u h' tk r hk => chain_link (hb { s with heap := h', toks := tk } _ E (fun b o e => hk b o (hx b o e)) fun u2 h2 t2 r2 k2 => ?_)) hm
  obtain ⟨t, rfl⟩ := r
  obtain ⟨t', rfl⟩ := r2
  refine le_int (wpAny_truthy_bool ?_)
  have k3 : Ext s.heap h2 := fun b o e => k2 b o (hk b o e)
  cases hd : decide (i ≤ j) with
  | false =>
    rw [hd] at hQ
    exact ite_ff (hQ _ h2 t2 rfl k3)
  | true =>
    rw [hd] at hQ
    refine ite_tt (chain_last (hc { s with heap := h2, toks := t2 } _ E (fun b o e => k3 b o (hx b o e)) fun u4 h4 t4 r4 k4 => ?_))
    obtain ⟨t5, rfl⟩ := r4
    exact le_int (hQ _ h4 t4 rfl fun b o e => k4 b o (k3 b o e))
/-- x if c else y, told by a relation -/
theorem er_if {t a b : Expr} {pos : Pos} {c : Bool} {R : Value → Heap → Prop} (ht : EVT P w A env g t c) (ha : c = true → EVR P w A env g a R) (hb : c = false → EVR P w A env g b R) : EVR P w A env g (.IfExp t a b pos) R := fun s Q E hx hQ => by
  refine wpAny_IfExp (ht s _ _ E rfl hx fun h' tk hk => ?_)
  cases c with
  | true => exact ite_tt (ha rfl { s with heap := h', toks := tk } Q E (fun b o e => hk b o (hx b o e)) fun u h2 t2 r k => hQ u h2 t2 r fun b o e => k b o (hk b o e))
  | false => exact ite_ff (hb rfl { s with heap := h', toks := tk } Q E (fun b o e => hk b o (hx b o e)) fun u h2 t2 r k => hQ u h2 t2 r fun b o e => k b o (hk b o e))
theorem EVR.imp {e : Expr} {R S : Value → Heap → Prop} (h : EVR P w A env g e R) (k : ∀ u h, R u h → S u h) : EVR P w A env g e S := fun s Q E hx hQ => h s Q E hx fun u h' tk r => hQ u h' tk (k u h' r)
/-- a tuple laid anew -/
def TupR (vs : List V) (u : Value) (h : Heap) : Prop := ∃ a us, u = .ref a ∧ Vals vs us ∧ SeqG h true a us
theorem er_tup {es : List Expr} {k : Nat} {pos : Pos} {vs : List V} (ha : EA P w A env g es vs) (hl : vs.length ≤ 1000) : EVR P w A env g (.Tuple es k pos) (TupR vs) := fun s Q E hx hQ => by
  refine wpAny_Tuple_spliced (ha pos s _ E hx fun us h' tk r hk => ⟨?_, ?_⟩)
  · rw [← r.length]
    exact Nat.le_trans hl (by decide)
  · refine hQ _ (h'.push { cls := .type "tuple", data := .seq us.toArray }) tk ⟨_, us, rfl, r, ?_, ?_⟩ fun b o e => Heap.get?_push_of_some _ (hk b o e)
    · rw [← r.length]
      exact Nat.le_trans hl (by decide)
    · exact ⟨_, Heap.get?_push_size _ rfl, rfl, _, rfl⟩
/-- sum(x) of a tuple of whole numbers -/
theorem sum_tup {s : Shared} {a : Addr} {us : List Value} {val : Nat → Int} {Q : Value → Shared → Prop} {E : Value → Shared → Prop} (hh : A.handled = none) (p : IsTup s.heap a us.toArray) (hi : ∀ (i : Nat) (v : Value), us[i]? = some v → ∃ t, v = Value.int (val i) t)
    (h : ∀ h' tk t', Ext s.heap h' → Q (.int (preSum val us.length) t') { s with heap := h', toks := tk }) : wpAny (model P w) A (call (.builtin "sum") [.ref a]) Q E s := by
  have lt : a < s.heap.objs.size := p.lt
  have hne : a ≠ s.heap.objs.size := Nat.ne_of_lt lt
  refine call_sum_walkG (wpAny_pyIter_tuple (show s.heap.IsTuple a us.toArray from p) ?_)
  refine ⟨_, _, _, _, _, _, val, rfl, Walks.tuple (show A.in1.handled = none from hh) s.heap.objs.size a hne us.toArray, ⟨⟨_, Heap.get?_push_size _ rfl, rfl, rfl⟩, ?_⟩, ?_, fun i v e => hi i v (by simpa using e), fun h' tk t' hk => ?_⟩
  · obtain ⟨o, ho, r⟩ := p
    exact ⟨o, Heap.get?_push_of_some _ ho, r⟩
  · intro b hb
    rw [Heap.size_push]
    rcases List.mem_cons.mp hb with z | z
    · rw [z]; exact Nat.lt_succ_self _
    · rcases List.mem_cons.mp z with z | z
      · rw [z]; exact Nat.lt_succ_of_lt lt
      · cases z
  · have := h h' tk t' fun b o e => hk b o (fun z => Nat.ne_of_lt (Heap.lt_size e) (List.mem_singleton.mp z)) (Heap.get?_push_of_some _ e)
    simpa using this
end
end Pu
set_option Elab.async false
set_option linter.all false
set_option maxRecDepth 100000
set_option maxHeartbeats 4000000
namespace Pu
open PySem PySem.Spec PyProof.Rows L2
/-- arguments, told by a relation -/
def EAR (P : Program) (w : World) (A : Around) (env : Env) (g : Heap) (es : List Expr) (R : List Value → Heap → Prop) : Prop :=
  ∀ (pos : Pos) (s : Shared) (Q : List Value → Shared → Prop) (E : Value → Shared → Prop), Ext g s.heap →
    (∀ us h' tk, R us h' → Ext s.heap h' → Q us { s with heap := h', toks := tk }) → wpAny (model P w) A (spliced (backTo pos (starEach es env))) Q E s
section
variable {P : Program} {w : World} {K : PySem.W.Frag} {mg : Str → Option Value} {base : Heap} {A : Around} {env : Env} {g : Heap}
theorem EV.to {e : Expr} {v v' : V} (h : EV P w A env g e v) (z : v = v') : EV P w A env g e v' := z ▸ h
theorem ar_last {e : Expr} {R : Value → Heap → Prop} (ha : EVR P w A env g e R) (hs : starEach [e] env = (false, eval e env) :: starEach [] env := by rfl) : EAR P w A env g [e] (fun us h => ∃ u, us = [u] ∧ R u h) := fun pos s Q E hx hQ => by
  rw [hs]
  show wpAny _ _ (spliced ((false, eval e env) :: backTo pos (starEach [] env))) _ _ s
  exact Calls.spliced_cons (ha s _ E hx fun u h' tk r hk => Calls.spliced_nil (hQ [u] h' tk ⟨u, rfl, r⟩ hk))
theorem ar_ea {es : List Expr} {vs : List V} (h : EA P w A env g es vs) : EAR P w A env g es (fun us _ => Vals vs us) := h
theorem ar_cons {e : Expr} {es : List Expr} {v : V} {R : List Value → Heap → Prop} (ha : EV P w A env g e v) (hr : EAR P w A env g es R) (hs : starEach (e :: es) env = (false, eval e env) :: starEach es env := by rfl) :
    EAR P w A env g (e :: es) (fun us h => ∃ u us', us = u :: us' ∧ RelV v u ∧ R us' h) := fun pos s Q E hx hQ => by
  rw [hs]
  show wpAny _ _ (spliced ((false, eval e env) :: backTo pos (starEach es env))) _ _ s
  refine Calls.spliced_cons (ha s _ E hx fun u h' tk r hk => ?_)
  exact hr pos { s with heap := h', toks := tk } _ E (fun b o e => hk b o (hx b o e)) fun us h2 t2 r2 k2 => hQ (u :: us) h2 t2 ⟨u, us, rfl, r, r2⟩ fun b o e => k2 b o (hk b o e)
/-- a pure def by its name, its answer told by a relation -/
theorem er_pf {k : Nat} {f : Addr} {fd : FuncData} {ps : List Str} {sp : List V → Heap → (Value → Heap → Prop) → Prop} {x : Str} {p pos : Pos} {e : Expr} {es : List Expr} {RA : List Value → Heap → Prop} {S : Value → Heap → Prop} (F : FrP K mg base A env g) (G : PFR P w K mg base k f fd ps sp) (hr : Room k A)
    (hg : env.kindOf x = some .globalImplicit) (hm : mg x = some (.ref f)) (hk : PySem.W.keepIn K (.ref f) = true) (hb : Binds K fd ps []) (ha : EAR P w A env g (e :: es) RA)
    (hsp : ∀ us h, Ext g h → RA us h → ∃ vs, Vals vs us ∧ vs.length = ps.length ∧ sp vs h S) (hd : (x == ("__debug__" : Str)) = false := by decide)
    (he : starEach (e :: es) env = (false, eval e env) :: starEach es env := by rfl) (hpl : (backTo pos (starEach es env)).any (·.1) = false := by rfl) : EVR P w A env g (.Call (.Name x p) (e :: es) [] pos) S := fun s Q E hx hQ => by
  have hbs : Ext base s.heap := fun b o e => hx b o (F.ext b o e)
  refine wpAny_Call_Name_kw (Calls.Name_function_global F.kind hg (Calls.loadGlobal_global (by rw [F.glob]; exact F.mod.glob.keeps hbs) hm ?_) hd)
  refine PySem.W.callWith_K (h₀ := base) F.mod.kin hk (ha pos s _ E hx fun us h' tk r hk2 => ?_) he hpl
  have hx2 : Ext g h' := fun b o e => hk2 b o (hx b o e)
  have hb2 : Ext base h' := fun b o e => hx2 b o (F.ext b o e)
  obtain ⟨vs, rv, hl, hs⟩ := hsp us h' hx2 r
  refine ⟨F.mod.kin.keeps hb2, ?_⟩
  show wpAny _ _ (call (.ref f) us) _ _ _
  have hlu : (us ++ []).length = ps.length := by rw [List.append_nil, ← rv.length]; exact hl
  have hbind := hb { s with heap := h', toks := tk } us (F.mod.kin.keeps hb2) hlu
  rw [List.append_nil] at hbind
  refine wpAny_call (codeAny_mono (G.run A { s with heap := h', toks := tk } ⟨us, []⟩ us vs S (fun r s' => ∃ u h2 t2, r = .ok (.ret u) ∧ S u h2 ∧ Ext h' h2 ∧ s' = { s with heap := h2, toks := t2 }) hr hb2 hbind rv hl hs fun u h2 t2 r2 k2 => ⟨u, h2, t2, rfl, r2, k2, rfl⟩) fun r s' hq => ?_)
  obtain ⟨u, h2, t2, rfl, r2, k2, rfl⟩ := hq
  exact hQ u h2 t2 r2 fun b o e => k2 b o (hk2 b o e)
end
end Pu
namespace Pu
open PySem PySem.Spec PyProof.Rows L2
section
variable {P : Program} {w : World} {K : PySem.W.Frag} {mg : Str → Option Value} {base : Heap} {A : Around} {env : Env} {g : Heap}
theorem ev_bl {b : Bool} {k : Nat} {pos : Pos} : EV P w A env g (.Constant (.bool b) k pos) (.bl b) := fun s Q E hx hQ => wpAny_Constant_bool (hQ _ s.heap s.toks rfl fun _ _ e => e)
/-- x is not None, x a tuple or a list -/
theorem ev_isNot {e : Expr} {pos p2 : Pos} {k : Nat} {a : Addr} (he : EV P w A env g e (.ref a)) : EV P w A env g (.Compare e [.IsNot] [.Constant .none k p2] pos) (.bl true) := fun s Q E hx hQ => by
  refine wpAny_Compare1 (he s _ E hx fun u h' tk r hk => wpAny_Constant_none ?_) (nobehind _ (by decide) (by decide))
  cases (show u = Value.ref a from r)
  exact wpAny_isNot_other rfl (fun z => nomatch z) (hQ _ h' tk rfl hk)
/-- name = value, what is known of the value sharpened by where the locals stand -/
theorem es_set2 {m : Str → Option Value} {R : Value → Heap → Prop} {W : Heap → Prop} {x : Str} {e : Expr} {p pos : Pos} {rest : List Stmt} {R1 R2 : Value → Heap → Prop} (S : St env W) (hl : env.kindOf x = some .local) (hk : env.scope.kind = .function)
    (he : ∀ h1, W h1 → h1.Ns env.locals m → EVR P w A env h1 e R1) (h2 : ∀ u h m', R1 u h → h.Ns env.locals m' → R2 u h) (hR : ∀ u, St env (R2 u)) (hm : ∀ u, ES P w A env (fun h => W h ∧ R2 u h) (put m x u) rest R)
    (hsw : swapsWith e (some (.Name x p)) pos.line env = pure false := by rfl) : ES P w A env W m (.Assign [.Name x p] e pos :: rest) R := fun s Q E hx hn hQ => by
  refine wpAny_execs_cons (wpAny_Assign_Name (he s.heap hx hn s _ E (fun _ _ e => e) fun u h' tk r hk2 => ?_) hsw)
  have r2 := h2 u h' m r (hn.keeps hk2)
  refine wpAny_storeName_local hl (hn.keeps hk2) (fun h3 ns3 same => ?_) (by rw [hk]; rfl)
  have st : ∀ b o, b ≠ env.locals → h'.get? b = some o → h3.get? b = some o := fun b o hb e => same.extBut b o hb e
  exact hm u { s with heap := h3, toks := tk + 1 } Q E ⟨S _ _ (S.ex hx hk2) st, hR u _ _ r2 st⟩ ns3 fun u h2 t2 r k => hQ u h2 t2 r k.1
/-- a tuple that stands elsewhere than the locals -/
def TupN (L : Addr) (vs : List V) (u : Value) (h : Heap) : Prop := ∃ a us, u = .ref a ∧ a ≠ L ∧ Vals vs us ∧ SeqG h true a us
theorem TupR.n {vs : List V} {u : Value} {h : Heap} {L : Addr} {m : Str → Option Value} (x : TupR vs u h) (n : h.Ns L m) : TupN L vs u h := by
  obtain ⟨a, us, rfl, v, sq⟩ := x
  refine ⟨a, us, rfl, fun z => ?_, v, sq⟩
  obtain ⟨o, ho, q1, n1, q2⟩ := (show IsTup h a us.toArray from sq.2)
  subst z
  obtain ⟨o', es, ep, ho', hd', _⟩ := n
  rw [ho] at ho'
  cases ho'
  rw [q2] at hd'
  cases hd'
theorem TupN.st {vs : List V} {u : Value} : St env (TupN env.locals vs u) := fun h h' x k => by
  obtain ⟨a, us, rfl, na, v, sq⟩ := x
  obtain ⟨o, ho, r⟩ := (show IsTup h a us.toArray from sq.2)
  exact ⟨a, us, rfl, na, v, sq.1, o, k _ _ na ho, r⟩
end
end Pu
set_option Elab.async false
set_option linter.all false
set_option maxRecDepth 100000
set_option maxHeartbeats 4000000
namespace K13
open PySem PySem.Spec PyProof.Rows L2 GxR Pu Evl
theorem scIsReading : FnScope ["value"] ["value"] (defScope sIsReading) := ⟨rfl, rfl, rfl, by decide +kernel, rfl, by decide +kernel, by decide +kernel⟩
theorem scIsSize : FnScope ["value"] ["value"] (defScope sIsSize) := ⟨rfl, rfl, rfl, by decide +kernel, rfl, by decide +kernel, by decide +kernel⟩
theorem scSumsWith : FnScope ["many", "low", "high", "needs", "others"] ["many", "low", "high", "needs"] (defScope sSumsWith) := ⟨rfl, rfl, rfl, by decide +kernel, rfl, by decide +kernel, by decide +kernel⟩
theorem scEndsOf : FnScope ["low", "high"] ["low", "high"] (defScope sEndsOf) := ⟨rfl, rfl, rfl, by decide +kernel, rfl, by decide +kernel, by decide +kernel⟩
theorem scIsSpan : FnScope ["value", "first", "many", "whole", "low", "high", "sums"] ["value"] (defScope sIsSpan) := ⟨rfl, rfl, rfl, by decide +kernel, rfl, by decide +kernel, by decide +kernel⟩
/-- the module's number -/
def Mv (mg : Str → Option Value) : Prop := ∃ u, mg "MOST_VALUE" = some u ∧ RelV (.int 1000000) u
def pReading : List V → Heap → V → Prop := fun vs g v => ∃ i : Int, vs = [.int i] ∧ v = .bl (decide (-1000000 ≤ i) && decide (i ≤ 1000000))
def pSize : List V → Heap → V → Prop := fun vs g v => ∃ i : Nat, vs = [.int ((2 ^ i : Nat) : Int)] ∧ v = .bl true
theorem pow_and (i : Nat) : Builtin.bitAnd ((2 ^ i : Nat) : Int) (((2 ^ i : Nat) : Int) - 1) = 0 := by
  have p : 0 < 2 ^ i := Nat.two_pow_pos i
  have e : (((2 ^ i : Nat) : Int) - 1) = ((2 ^ i - 1 : Nat) : Int) := by omega
  rw [e]
  unfold Builtin.bitAnd
  rw [decide_eq_true (by omega), decide_eq_true (by omega)]
  show (((((2 ^ i : Nat) : Int).toNat &&& ((2 ^ i - 1 : Nat) : Int).toNat : Nat) : Nat) : Int) = 0
  rw [Int.toNat_natCast, Int.toNat_natCast, Nat.and_two_pow_sub_one_eq_mod, Nat.mod_self]
  rfl
section
variable {P : Program} {w : World} {K : PySem.W.Frag} {mg : Str → Option Value} {base : Heap}
theorem pf_is_reading {f f1 : Addr} {fd fd1 : FuncData} (M : L2.Mod K mg base) (G : Mg mg) (V' : Mv mg) (F : Fun K "is_reading" "is_reading" sIsReading f fd) (F1 : Fns K mg "is_integer" ["value"] sIsInteger f1 fd1) : PF P w K mg base 2 f fd ["value"] pReading := by
  have G1 : PF P w K mg base 1 f1 fd1 ["value"] pInteger := pf_is_integer M G F1.fn
  obtain ⟨um, em, rm⟩ := V'
  refine pf_ret M F scIsReading rfl (by decide +kernel) (fun cdv A L g us vs v hr hx r hl h hn => ?_) fun vs g h v e q => q
  obtain ⟨i, rfl, rfl⟩ := h
  obtain ⟨u, rfl, ru⟩ := vals1 r
  obtain ⟨m, ns, hm⟩ := hn 0 "value" u rfl rfl
  have FR : FrP K mg base A (envOfC "is_reading" (defScope sIsReading) L f cdv) g := ⟨M, hx, rfl, rfl, rfl, hr.hd⟩
  have val : ∀ {pos : Pos}, EV P w A (envOfC "is_reading" (defScope sIsReading) L f cdv) g (.Name "value" pos) (.int i) := ev_loc FR rfl ns hm ru
  exact ev_and (x := true) (ev_pf FR G1 hr rfl F1.mg F1.fn.kp F1.bd (ea_cons val ea_nil) rfl fun h e => ⟨_, _, rfl, .int i, rfl⟩) fun _ => ev_one (ev_chain (ev_neg (ev_gc FR rfl em rm)) val (ev_gc FR rfl em rm))
theorem pf_is_size {f f1 f2 : Addr} {fd fd1 fd2 : FuncData} (M : L2.Mod K mg base) (G : Mg mg) (F : Fun K "is_size" "is_size" sIsSize f fd) (F1 : Fns K mg "is_number" ["value"] sIsNumber f1 fd1) (F2 : Fns K mg "is_integer" ["value"] sIsInteger f2 fd2) : PF P w K mg base 3 f fd ["value"] pSize := by
  have G1 : PF P w K mg base 2 f1 fd1 ["value"] pNumber := pf_is_number M G F1.fn F2.fn F2.bd F2.mg
  refine pf_ret M F scIsSize rfl (by decide +kernel) (fun cdv A L g us vs v hr hx r hl h hn => ?_) fun vs g h v e q => q
  obtain ⟨i, rfl, rfl⟩ := h
  obtain ⟨u, rfl, ru⟩ := vals1 r
  obtain ⟨m, ns, hm⟩ := hn 0 "value" u rfl rfl
  have FR : FrP K mg base A (envOfC "is_size" (defScope sIsSize) L f cdv) g := ⟨M, hx, rfl, rfl, rfl, hr.hd⟩
  have val : ∀ {pos : Pos}, EV P w A (envOfC "is_size" (defScope sIsSize) L f cdv) g (.Name "value" pos) (.int ((2 ^ i : Nat) : Int)) := ev_loc FR rfl ns hm ru
  have p : 0 < 2 ^ i := Nat.two_pow_pos i
  have t1 : isNum (.int ((2 ^ i : Nat) : Int)) = true := decide_eq_true (show ((2 ^ i : Nat) : Int) ≥ 0 by omega)
  exact ev_and (x := true) (y := true) (ev_pf FR G1 hr rfl F1.mg F1.fn.kp F1.bd (ea_cons val ea_nil) rfl fun h e => ⟨_, _, rfl, .int _, by rw [t1]⟩) fun _ =>
    ev_and (x := true) (y := true) (EV.to (ev_gt val ev_int) (by rw [decide_eq_true (show ((2 ^ i : Nat) : Int) > 0 by omega)])) fun _ =>
      ev_one (EV.to (ev_eqI (ev_and_ val (ev_sub val ev_int)) ev_int) (by rw [pow_and]; rfl))
def spEnds : List V → Heap → (Value → Heap → Prop) → Prop := fun vs g S => ∃ i j : Int, vs = [.int i, .int j] ∧ S = TupR (if i = j then [.int i] else [.int i, .int j])
theorem pf_ends {f : Addr} {fd : FuncData} (M : L2.Mod K mg base) (F : Fun K "ends_of" "ends_of" sEndsOf f fd) : PFR P w K mg base 1 f fd ["low", "high"] spEnds := by
  refine pf_body M F scEndsOf (by decide +kernel) fun cdv A L g us vs T m hr hx r hl h hL hn => ?_
  obtain ⟨i, j, rfl, rfl⟩ := h
  obtain ⟨u1, u2, rfl, r1, r2⟩ := vals2 r
  have S := St.over (env := envOfC "ends_of" (defScope sEndsOf) L f cdv) hL
  refine es_ret S fun h1 e1 n1 => ?_
  have FR : FrP K mg base A (envOfC "ends_of" (defScope sEndsOf) L f cdv) h1 := ⟨M, fun b o e => e1 b o (hx b o e), rfl, rfl, rfl, hr.hd⟩
  have lo : ∀ {pos : Pos}, EV P w A (envOfC "ends_of" (defScope sEndsOf) L f cdv) h1 (.Name "low" pos) (.int i) := ev_loc FR rfl n1 (hn 0 "low" u1 rfl rfl) r1
  have hi : ∀ {pos : Pos}, EV P w A (envOfC "ends_of" (defScope sEndsOf) L f cdv) h1 (.Name "high" pos) (.int j) := ev_loc FR rfl n1 (hn 1 "high" u2 rfl rfl) r2
  refine er_if (c := decide (i = j)) (et_cmpI lo hi fun _ _ _ _ _ q => eq_int (by rw [Bool.beq_eq_decide_eq]; exact q)) (fun z => ?_) fun z => ?_
  · rw [if_pos (of_decide_eq_true z)]
    exact er_tup (ea_cons lo ea_nil) (by show 1 ≤ 1000; decide)
  · rw [if_neg (of_decide_eq_false z)]
    exact er_tup (ea_cons lo (ea_cons hi ea_nil)) (by show 2 ≤ 1000; decide)
end
end K13
set_option Elab.async false
set_option linter.all false
set_option maxRecDepth 100000
set_option maxHeartbeats 4000000
namespace K13
open PySem PySem.Spec PyProof.Rows L2 GxR Pu Evl
def tot (ks : List Int) : Int := preSum (fun i => ks.getD i 0) ks.length
def spSums : List V → Heap → (Value → Heap → Prop) → Prop := fun vs g S => ∃ (n : Nat) (lo hi : Int) (a : Addr) (ks : List Int) (us : List Value), vs = [.int (n : Int), .int lo, .int hi, .ref a] ∧ SeqG g true a us ∧ Vals (ks.map V.int) us ∧ ks.length ≤ n ∧ n ≤ 1000000 ∧
  S = TupR [.int (tot ks + ((n : Int) - ks.length) * lo), .int (tot ks + ((n : Int) - ks.length) * hi)]
section
variable {P : Program} {w : World} {K : PySem.W.Frag} {mg : Str → Option Value} {base : Heap}
theorem pf_sums {f : Addr} {fd : FuncData} (M : L2.Mod K mg base) (G : Mg mg) (hsum : mg "sum" = none) (F : Fun K "sums_with" "sums_with" sSumsWith f fd) : PFR P w K mg base 1 f fd ["many", "low", "high", "needs"] spSums := by
  refine pf_body M F scSumsWith (by decide +kernel) fun cdv A L g us vs T m hr hx r hl h hL hn => ?_
  obtain ⟨n, lo, hi, a, ks, ws, rfl, sq, vk, hk, hn9, rfl⟩ := h
  obtain ⟨u1, t1, rfl, r1, q1⟩ : ∃ u1 t1, us = u1 :: t1 ∧ RelV (.int (n : Int)) u1 ∧ Vals [V.int lo, V.int hi, V.ref a] t1 := by cases r with | cons a b => exact ⟨_, _, rfl, a, b⟩
  obtain ⟨u2, t2, rfl, r2, q2⟩ : ∃ u1 t, t1 = u1 :: t ∧ RelV (.int lo) u1 ∧ Vals [V.int hi, V.ref a] t := by cases q1 with | cons a b => exact ⟨_, _, rfl, a, b⟩
  obtain ⟨u3, u4, rfl, r3, r4⟩ := vals2 q2
  have S := St.over (env := envOfC "sums_with" (defScope sSumsWith) L f cdv) hL
  have kl : ws.length = ks.length := by rw [← vk.length, List.length_map]
  refine es_set (R1 := fun u _ => RelV (.int ((n : Int) - ks.length)) u) S rfl rfl (fun h1 e1 n1 => ?_) (fun u h h' x _ => x) fun u => ?_
  · have FR : FrP K mg base A (envOfC "sums_with" (defScope sSumsWith) L f cdv) h1 := ⟨M, fun b o e => e1 b o (hx b o e), rfl, rfl, rfl, hr.hd⟩
    refine EV.r (EV.to (ev_sub (ev_loc FR rfl n1 (hn 0 "many" u1 rfl rfl) r1) (ev_len FR rfl G.len (ev_loc FR rfl n1 (hn 3 "needs" u4 rfl rfl) r4) (sq.mono e1))) (by rw [kl]))
  have S2 : St (envOfC "sums_with" (defScope sSumsWith) L f cdv) (fun h => Ext g h ∧ RelV (.int ((n : Int) - ks.length)) u) := S.and fun h h' x _ => x
  refine es_if (b := false) S2 (fun h1 e1 n1 => ?_) (fun z => nomatch z) fun _ => es_ret S2 fun h1 e1 n1 => ?_
  · have FR : FrP K mg base A (envOfC "sums_with" (defScope sSumsWith) L f cdv) h1 := ⟨M, fun b o e => e1.1 b o (hx b o e), rfl, rfl, rfl, hr.hd⟩
    refine et_cmpI (i := (n : Int) - ks.length) (j := 0) (ev_loc FR rfl n1 put_eq e1.2) ev_int fun _ _ _ _ _ q => lt_int ?_
    rw [decide_eq_false (by omega)]
    exact q
  · have FR : FrP K mg base A (envOfC "sums_with" (defScope sSumsWith) L f cdv) h1 := ⟨M, fun b o e => e1.1 b o (hx b o e), rfl, rfl, rfl, hr.hd⟩
    have oth : ∀ {pos : Pos}, EV P w A (envOfC "sums_with" (defScope sSumsWith) L f cdv) h1 (.Name "others" pos) (.int ((n : Int) - ks.length)) := ev_loc FR rfl n1 put_eq e1.2
    have nd : ∀ {pos : Pos}, EV P w A (envOfC "sums_with" (defScope sSumsWith) L f cdv) h1 (.Name "needs" pos) (.ref a) := ev_loc FR rfl n1 (put_ne (hn 3 "needs" u4 rfl rfl) (by decide)) r4
    have sm : ∀ {p q pos : Pos}, EV P w A (envOfC "sums_with" (defScope sSumsWith) L f cdv) h1 (.Call (.Name "sum" p) [.Name "needs" q] [] pos) (.int (tot ks)) := fun {p q pos} => by
      refine ev_bltcall (id := "sum") (vs := [.ref a]) FR rfl hsum (by decide +kernel) (ea_cons nd ea_nil) (fun s us Q E hx2 r hQ => ?_)
      obtain ⟨u, rfl, ru⟩ := vals1 r
      cases (show u = Value.ref a from ru)
      refine sum_tup (val := fun i => ks.getD i 0) hr.hd (show IsTup s.heap a ws.toArray from ((sq.mono e1.1).mono hx2).2) (fun i v hv => ?_) fun h' tk t' hk' => ?_
      · have li : i < ks.length := by rw [← kl]; exact (List.getElem?_eq_some_iff.mp hv).1
        obtain ⟨v', hv', rv⟩ := vk.get (i := i) (by rw [List.getElem?_map, List.getElem?_eq_getElem li]; rfl)
        cases Option.some.inj (hv'.symm.trans hv)
        obtain ⟨t, rfl⟩ := rv
        exact ⟨t, by rw [List.getD_eq_getElem?_getD, List.getElem?_eq_getElem li]; rfl⟩
      · rw [kl]
        exact hQ _ h' tk ⟨t', rfl⟩ hk'
    have mk : ∀ x : Int, IntMulOk ((n : Int) - ks.length) x := fun x => CMul.ok (.inl ⟨by omega, by omega⟩)
    refine er_tup (ea_cons (ev_add sm (ev_mul (mk _) oth (ev_loc FR rfl n1 (put_ne (hn 1 "low" u2 rfl rfl) (by decide)) r2))) (ea_cons (ev_add sm (ev_mul (mk _) oth (ev_loc FR rfl n1 (put_ne (hn 2 "high" u3 rfl rfl) (by decide)) r3))) ea_nil)) (by show 2 ≤ 1000; decide)
end
end K13
set_option Elab.async false
set_option linter.all false
set_option maxRecDepth 100000
set_option maxHeartbeats 4000000
namespace K13
open PySem PySem.Spec PyProof.Rows L2 GxR Pu Evl
def ends (lo hi : Int) : List Int := if lo = hi then [lo] else [lo, hi]
/-- first, many, sum, low, high that are a span -/
structure Good (f n : Nat) (wh lo hi : Int) : Prop where
  pw : ∃ i, n = 2 ^ i
  n9 : n ≤ 1000000
  l1 : -1000000 ≤ lo
  l2 : lo ≤ hi
  l3 : hi ≤ 1000000
  en : (ends lo hi).length ≤ n
  s1 : tot (ends lo hi) + ((n : Int) - (ends lo hi).length) * lo ≤ wh
  s2 : wh ≤ tot (ends lo hi) + ((n : Int) - (ends lo hi).length) * hi
def pSpan : List V → Heap → V → Prop := fun vs g v => ∃ (a : Addr) (b : Bool) (its : List Value) (f n : Nat) (wh lo hi : Int), vs = [.ref a] ∧ SeqG g b a its ∧ Vals [.int (f : Int), .int (n : Int), .int wh, .int lo, .int hi] its ∧ Good f n wh lo hi ∧ v = .bl true
section
variable {P : Program} {w : World} {K : PySem.W.Frag} {mg : Str → Option Value} {base : Heap}
variable {fPar fNum fInt fSz fRd fSm fEn fSq : Addr} {dPar dNum dInt dSz dRd dSm dEn dSq : FuncData}
theorem pf_is_span {f : Addr} {fd : FuncData} (M : L2.Mod K mg base) (G : Mg mg) (V' : Mv mg) (hsum : mg "sum" = none) (F : Fun K "is_span" "is_span" sIsSpan f fd) (F1 : Fns K mg "is_of_parts" ["value", "many"] sIsOfParts fPar dPar) (F2 : Fns K mg "is_number" ["value"] sIsNumber fNum dNum) (F3 : Fns K mg "is_integer" ["value"] sIsInteger fInt dInt)
    (F4 : Fns K mg "is_size" ["value"] sIsSize fSz dSz) (F5 : Fns K mg "is_reading" ["value"] sIsReading fRd dRd) (F6 : Fns K mg "sums_with" ["many", "low", "high", "needs"] sSumsWith fSm dSm) (F7 : Fns K mg "ends_of" ["low", "high"] sEndsOf fEn dEn) (F8 : Fns K mg "is_sequence" ["value"] sIsSequence fSq dSq) : PF P w K mg base 4 f fd ["value"] pSpan := by
  have G1 : PF P w K mg base 2 fPar dPar ["value", "many"] pOfParts := pf_is_of_parts M G F1.fn F8.fn F8.bd F8.mg
  have G2 : PF P w K mg base 2 fNum dNum ["value"] pNumber := pf_is_number M G F2.fn F3.fn F3.bd F3.mg
  have G3 : PF P w K mg base 1 fInt dInt ["value"] pInteger := pf_is_integer M G F3.fn
  have G4 : PF P w K mg base 3 fSz dSz ["value"] pSize := pf_is_size M G F4.fn F2 F3
  have G5 : PF P w K mg base 2 fRd dRd ["value"] pReading := pf_is_reading M G V' F5.fn F3
  have G6 : PFR P w K mg base 1 fSm dSm ["many", "low", "high", "needs"] spSums := pf_sums M G hsum F6.fn
  have G7 : PFR P w K mg base 1 fEn dEn ["low", "high"] spEnds := pf_ends M F7.fn
  refine PFR.pf (pf_body M F scIsSpan (by decide +kernel) fun cdv A L g us vs T m hr hx r hl h hL hn => ?_)
  obtain ⟨v, ⟨a, bb, its, f0, n, wh, lo, hi, rfl, sq, vk, gd, rfl⟩, rfl⟩ := h
  obtain ⟨u0, rfl, r0⟩ := vals1 r
  have hlen : its.length = 5 := by rw [← vk.length]; rfl
  obtain ⟨v1, t1, rfl, k1, q1⟩ : ∃ u1 t1, its = u1 :: t1 ∧ RelV (.int (f0 : Int)) u1 ∧ Vals [V.int (n : Int), V.int wh, V.int lo, V.int hi] t1 := by cases vk with | cons a b => exact ⟨_, _, rfl, a, b⟩
  obtain ⟨v2, t2, rfl, k2, q2⟩ : ∃ u1 t, t1 = u1 :: t ∧ RelV (.int (n : Int)) u1 ∧ Vals [V.int wh, V.int lo, V.int hi] t := by cases q1 with | cons a b => exact ⟨_, _, rfl, a, b⟩
  obtain ⟨v3, t3, rfl, k3, q3⟩ : ∃ u1 t, t2 = u1 :: t ∧ RelV (.int wh) u1 ∧ Vals [V.int lo, V.int hi] t := by cases q2 with | cons a b => exact ⟨_, _, rfl, a, b⟩
  obtain ⟨v4, v5, rfl, k4, k5⟩ := vals2 q3
  have S := St.over (env := envOfC "is_span" (defScope sIsSpan) L f cdv) hL
  have FR : ∀ h1, Ext g h1 → FrP K mg base A (envOfC "is_span" (defScope sIsSpan) L f cdv) h1 := fun h1 e1 => ⟨M, fun b o e => e1 b o (hx b o e), rfl, rfl, rfl, hr.hd⟩
  have m0 : m "value" = some u0 := hn 0 "value" u0 rfl rfl
  obtain ⟨i, hi2⟩ := gd.pw
  have np : (0 : Int) ≤ n := by omega
  have l1 := gd.l1
  have l2 := gd.l2
  have l3 := gd.l3
  refine es_if (b := !true) S (fun h1 e1 n1 => et_not (et_val (EV.to (ev_pf (FR h1 e1) G1 (hr.mono (by decide)) rfl F1.mg F1.fn.kp F1.bd (ea_cons (ev_loc (FR h1 e1) rfl n1 m0 r0) (ea_cons ev_int ea_nil)) rfl fun h e => ⟨_, some 5, 5, rfl, ?_, rfl⟩) rfl))) (fun z => nomatch z) fun _ => ?_
  · have := PartsG.seq ((sq.mono e1).mono e)
    rw [hlen] at this
    exact this
  refine es_unpack S hr.hd (fun h1 e1 n1 => ev_loc (FR h1 e1) rfl n1 m0 r0) (fun h1 e1 => sq.mono e1) (eu_cons S rfl rfl (eu_cons S rfl rfl (eu_cons S rfl rfl (eu_cons S rfl rfl (eu_cons S rfl rfl eu_nil))))) ?_ (by rfl)
  generalize hm' : put (put (put (put (put m "first" v1) "many" v2) "whole" v3) "low" v4) "high" v5 = m'
  have g1 : m' "first" = some v1 := by rw [← hm']; exact put_ne (put_ne (put_ne (put_ne put_eq (by decide)) (by decide)) (by decide)) (by decide)
  have g2 : m' "many" = some v2 := by rw [← hm']; exact put_ne (put_ne (put_ne put_eq (by decide)) (by decide)) (by decide)
  have g3 : m' "whole" = some v3 := by rw [← hm']; exact put_ne (put_ne put_eq (by decide)) (by decide)
  have g4 : m' "low" = some v4 := by rw [← hm']; exact put_ne put_eq (by decide)
  have g5 : m' "high" = some v5 := by rw [← hm']; exact put_eq
  clear hm'
  refine es_if (b := !true || (!true || !true)) S (fun h1 e1 n1 => ?_) (fun z => nomatch z) fun _ => ?_
  · refine et_or (et_not (et_val (EV.to (ev_pf (FR h1 e1) G2 (hr.mono (by decide)) rfl F2.mg F2.fn.kp F2.bd (ea_cons (ev_loc (FR h1 e1) rfl n1 g1 k1) ea_nil) rfl fun h e => ⟨_, _, rfl, .int _, rfl⟩) ?_))) fun _ =>
      et_or (et_not (et_val (ev_pf (FR h1 e1) G4 (hr.mono (by decide)) rfl F4.mg F4.fn.kp F4.bd (ea_cons (ev_loc (FR h1 e1) rfl n1 g2 k2) ea_nil) rfl fun h e => ⟨i, by rw [hi2], rfl⟩))) fun _ =>
        et_or1 (et_not (et_val (EV.to (ev_pf (FR h1 e1) G3 (hr.mono (by decide)) rfl F3.mg F3.fn.kp F3.bd (ea_cons (ev_loc (FR h1 e1) rfl n1 g3 k3) ea_nil) rfl fun h e => ⟨_, _, rfl, .int _, rfl⟩) rfl)))
    rw [show isNum (.int (f0 : Int)) = true from decide_eq_true (show (f0 : Int) ≥ 0 by omega)]
  refine es_if (b := !true || (!true || false)) S (fun h1 e1 n1 => ?_) (fun z => nomatch z) fun _ => ?_
  · refine et_or (et_not (et_val (EV.to (ev_pf (FR h1 e1) G5 (hr.mono (by decide)) rfl F5.mg F5.fn.kp F5.bd (ea_cons (ev_loc (FR h1 e1) rfl n1 g4 k4) ea_nil) rfl fun h e => ⟨_, rfl, rfl⟩) ?_))) fun _ =>
      et_or (et_not (et_val (EV.to (ev_pf (FR h1 e1) G5 (hr.mono (by decide)) rfl F5.mg F5.fn.kp F5.bd (ea_cons (ev_loc (FR h1 e1) rfl n1 g5 k5) ea_nil) rfl fun h e => ⟨_, rfl, rfl⟩) ?_))) fun _ =>
        et_or1 (et_cmpI (ev_loc (FR h1 e1) rfl n1 g4 k4) (ev_loc (FR h1 e1) rfl n1 g5 k5) fun _ _ _ _ _ q => gt_int (by rw [decide_eq_false (show ¬ lo > hi by omega)]; exact q))
    · rw [decide_eq_true (show -1000000 ≤ lo by omega), decide_eq_true (show lo ≤ 1000000 by omega)]; rfl
    · rw [decide_eq_true (show -1000000 ≤ hi by omega), decide_eq_true (show hi ≤ 1000000 by omega)]; rfl
  refine es_set2 (R1 := TupR [.int (tot (ends lo hi) + ((n : Int) - (ends lo hi).length) * lo), .int (tot (ends lo hi) + ((n : Int) - (ends lo hi).length) * hi)]) S rfl rfl (fun h1 e1 n1 => ?_) (fun u h m' k n => k.n n) (fun u => TupN.st) fun u => ?_
  · refine er_pf (FR h1 e1) G6 (hr.mono (by decide)) rfl F6.mg F6.fn.kp F6.bd (ar_cons (ev_loc (FR h1 e1) rfl n1 g2 k2) (ar_cons (ev_loc (FR h1 e1) rfl n1 g4 k4) (ar_cons (ev_loc (FR h1 e1) rfl n1 g5 k5)
      (ar_last (er_pf (S := TupR ((ends lo hi).map V.int)) (FR h1 e1) G7 (hr.mono (by decide)) rfl F7.mg F7.fn.kp F7.bd (ar_ea (ea_cons (ev_loc (FR h1 e1) rfl n1 g4 k4) (ea_cons (ev_loc (FR h1 e1) rfl n1 g5 k5) ea_nil))) fun us h e v => ⟨_, v, rfl, lo, hi, rfl, ?_⟩))))) fun us h e v => ?_
    · unfold ends
      by_cases z : lo = hi
      · rw [if_pos z, if_pos z]; rfl
      · rw [if_neg z, if_neg z]; rfl
    · obtain ⟨w1, us1, rfl, x1, w2, us2, rfl, x2, w3, us3, rfl, x3, w4, rfl, a4, us5, rfl, x5, sq5⟩ := v
      exact ⟨[.int (n : Int), .int lo, .int hi, .ref a4], .cons x1 (.cons x2 (.cons x3 (.cons rfl .nil))), rfl, n, lo, hi, a4, ends lo hi, us5, rfl, sq5, x5, gd.en, gd.n9, rfl⟩
  have S2 := S.and (TupN.st (env := envOfC "is_span" (defScope sIsSpan) L f cdv) (vs := [.int (tot (ends lo hi) + ((n : Int) - (ends lo hi).length) * lo), .int (tot (ends lo hi) + ((n : Int) - (ends lo hi).length) * hi)]) (u := u))
  refine es_ret S2 fun h1 e1 n1 => ?_
  obtain ⟨a4, us4, rfl, _, x4, sq4⟩ := e1.2
  obtain ⟨w1, w2, rfl, x1, x2⟩ := vals2 x4
  have sm : ∀ {pos : Pos}, EV P w A (envOfC "is_span" (defScope sIsSpan) L f cdv) h1 (.Name "sums" pos) (.ref a4) := ev_loc (FR h1 e1.1) rfl n1 put_eq rfl
  refine EV.r (ev_and (x := true) (y := true) (ev_isNot sm) fun _ => ev_one (EV.to (ev_chain (ev_ix (j := 0) (FR h1 e1.1) sm ev_int sq4 rfl x1) (ev_loc (FR h1 e1.1) rfl n1 (put_ne g3 (by decide)) k3) (ev_ix (j := 1) (FR h1 e1.1) sm ev_int sq4 rfl x2)) ?_))
  rw [decide_eq_true gd.s1, decide_eq_true gd.s2]
  rfl
end
end K13
set_option Elab.async false
set_option linter.all false
set_option maxRecDepth 100000
set_option maxHeartbeats 4000000
namespace K13
open PySem PySem.Spec PyProof.Rows L2 GxR Pu Evl
/-- a span by its five numbers -/
structure S5 where
  f : Nat
  n : Nat
  w : Int
  lo : Int
  hi : Int
def S5.vs (s : S5) : List V := [.int (s.f : Int), .int (s.n : Int), .int s.w, .int s.lo, .int s.hi]
def S5.Ok (s : S5) : Prop := Good s.f s.n s.w s.lo s.hi
/-- spans as tuples or lists -/
def SpE (K : PySem.W.Frag) (H : Hp) (s : S5) (v : V) : Prop := ∃ b, v = .ref b ∧ SqE K H b s.vs
theorem scAreSpans : FnScope ["value"] ["value"] (defScope sAreSpans) := ⟨rfl, rfl, rfl, by decide +kernel, rfl, by decide +kernel, by decide +kernel⟩
theorem scBehind : FnScope ["span"] ["span"] (defScope sBehind) := ⟨rfl, rfl, rfl, by decide +kernel, rfl, by decide +kernel, by decide +kernel⟩
theorem scRowSpan : FnScope ["row", "value"] ["row", "value"] (defScope sRowSpan) := ⟨rfl, rfl, rfl, by decide +kernel, rfl, by decide +kernel, by decide +kernel⟩
def spSpans (K : PySem.W.Frag) (T : Addr) : Sp := fun vs H Q _ => ∃ (e : Addr) (L : List S5) (xs : List V), vs = [.ref e] ∧ SqE K H e xs ∧ Paired (SpE K H) L xs ∧ (∀ s ∈ L, s.Ok) ∧ TabG H T ∧ ∀ H', ExT T H H' → Q (.bl true) H'
theorem Paired.atR {α β : Type} {F : α → β → Prop} {l : List α} {m : List β} (h : Paired F l m) {i : Nat} {x : β} (e : m[i]? = some x) : ∃ a, l[i]? = some a ∧ F a x := by
  induction h generalizing i with
  | nil => cases e
  | cons r t ih =>
    cases i with
    | zero => exact ⟨_, rfl, by cases e; exact r⟩
    | succ i => exact ih e
section
variable {P : Program} {w : World} {K : PySem.W.Frag} {mg : Str → Option Value} {base : Heap} {c T : Addr}
variable {fSp fSq fBe : Addr} {dSp dSq dBe : FuncData}
theorem SpE.ex {H H' : Hp} {s : S5} {v : V} (h : SpE K H s v) (e : Ex H H') : SpE K H' s v := by
  obtain ⟨b, rfl, q⟩ := h
  exact ⟨b, rfl, SqE.ex q e⟩
theorem ok_are_spans {f : Addr} {fd : FuncData} (M : L2.Mod K mg base) (G : Mg mg) (F : FunC K "are_spans" "are_spans" sAreSpans f fd c) (TB : TabB base mg c T)
    (F4 : Fns K mg "is_sequence" ["value"] sIsSequence fSq dSq) (F5 : Fns K mg "is_span" ["value"] sIsSpan fSp dSp) (G5 : PF P w K mg base 4 fSp dSp ["value"] pSpan) : FnOk P w K mg base CX0 6 f fd ["value"] (spSpans K T) := by
  have G4 : FnOk P w K mg base CX0 1 fSq dSq ["value"] (spPure P w base ["value"] pSequence) := (pf_is_sequence M G F4.fn).ok
  refine F.ok scAreSpans (fun vs H Q E h => ?_) (fun A outer s H vs Q E hr h => ?_)
  · obtain ⟨e, L, xs, rfl, _⟩ := h
    rfl
  · obtain ⟨e, L, xs, rfl, he, hw, hg, ht, kk⟩ := h
    refine ⟨_, pss_one (ps_ret (pe_and (pe_call G4 (hr.mono (by decide)) (by rfl) F4.mg F4.fn.kp F4.bd .nil pass0 (pa_cons (pv 0) pa_nil))
      (pe_one (pe_allQ (k := 4) (T := T) (c := c) (hr.mono (by decide)) (by rfl) G.all TB rfl (GenS.of rfl rfl (by decide +kernel) rfl rfl (by decide +kernel)) (pv 0))))), ?_⟩
    have e0 : Ev (tCall (spPure P w base ["value"] pSequence) [] E0 (tCons (tVar 0) tNil)) (start ["value"] [.ref e]) H (.bl true) := ev_call (ea_cons (ev_var rfl) ea_nil) (spPure.use rfl fun H1 e1 h ok bx => by
      obtain ⟨bb, its, rv, sq⟩ := TyG.of_sq ok (M.kin.keeps bx) (SqE.ex he e1)
      exact ⟨_, _, rfl, TyG.seq sq, by cases bb <;> rfl⟩)
    refine e0 H (Ex.refl H) _ fun H1 e1 => ⟨true, rfl, iteT ?_⟩
    have he1 := SqE.ex he e1
    have hw1 := Paired.mapP hw fun _ _ h => h.ex e1
    have ht1 := TabG.ex ht e1
    refine ⟨.ref e, rfl, e, xs, fun _ => true, rfl, he1, ht1, ?_, fun H4 t4 => ?_⟩
    · intro B' cenv g i v u hrm hs hg' hb hx hn hi rv ok
      obtain ⟨m, ns, hm⟩ := hn
      have FR : FrP K mg base B' cenv g := ⟨M, hx, by rw [hs], hg', hb, hrm.hd⟩
      obtain ⟨p, hp1, b, rfl, hb1⟩ := Paired.atR hw1 hi
      obtain ⟨bb, its, rvs, sq⟩ := seq_at ht1 ok (M.kin.keeps hx) hb1
      have val : ∀ {pos : Pos}, EV P w B' cenv g (.Name "span" pos) (.ref b) := ev_loc FR (by show cenv.scope.names.lookup _ = _; rw [hs]; rfl) ns hm rv
      exact ev_pf FR G5 hrm (by show cenv.scope.names.lookup _ = _; rw [hs]; rfl) F5.mg F5.fn.kp F5.bd (Pu.ea_cons val Pu.ea_nil) rfl fun h e => ⟨b, bb, its, p.f, p.n, p.w, p.lo, p.hi, rfl, sq.mono e, rvs, hg p (List.mem_of_getElem? hp1), rfl⟩
    · show Q (.bl ((List.range xs.length).all fun _ => true)) H4
      rw [show (List.range xs.length).all (fun _ => true) = true by simp]
      exact kk H4 (ExT.ex' e1 (ExT.of_tab t4))
/-- the row behind a span -/
def spBehind (K : PySem.W.Frag) : Sp := fun vs H Q _ => ∃ (s : S5) (v : V), vs = [v] ∧ SpE K H s v ∧ ∀ H', Ex H H' → Q (.int ((s.f : Int) + s.n)) H'
theorem ok_behind {f : Addr} {fd : FuncData} (F : Fun K "behind" "behind" sBehind f fd) : FnOk P w K mg base CX0 1 f fd ["span"] (spBehind K) := by
  refine F.ok scBehind (fun vs H Q E h => ?_) (fun cdv A outer s H vs Q E hr h => ?_)
  · obtain ⟨s, v, rfl, _⟩ := h
    rfl
  · obtain ⟨s, v, rfl, ⟨b, rfl, q⟩, kk⟩ := h
    refine ⟨_, pss_one (ps_ret (pe_op op_add (pe_ix ix_seq (pv 0) pe_int (fun _ _ => rfl)) (pe_ix ix_seq (pv 0) pe_int (fun _ _ => rfl)))), ?_⟩
    have i0 : atI s.vs ((0 : Nat) : Int) = some (V.int (s.f : Int)) := atI_nat rfl
    have i1 : atI s.vs ((1 : Nat) : Int) = some (V.int (s.n : Int)) := atI_nat rfl
    rcases q with q | q
    · exact ⟨_, rfl, .inr (.inl ⟨b, _, _, _, rfl, rfl, q, i0, _, rfl, .inr (.inl ⟨b, _, _, _, rfl, rfl, q, i1, _, _, rfl, rfl, kk H (Ex.refl H)⟩)⟩)⟩
    · exact ⟨_, rfl, .inl ⟨b, _, _, _, rfl, rfl, q, i0, _, rfl, .inl ⟨b, _, _, _, rfl, rfl, q, i1, _, _, rfl, rfl, kk H (Ex.refl H)⟩⟩⟩
/-- the span of one row -/
def spRowSpan : Sp := fun vs H Q _ => ∃ (r : Nat) (v : Int), vs = [.int (r : Int), .int v] ∧ ∀ q H', H q = none → Ex H H' → H' q = some (.tup (S5.vs ⟨r, 1, v, v, v⟩)) → Q (.ref q) H'
theorem ok_row_span {f : Addr} {fd : FuncData} (F : Fun K "row_span" "row_span" sRowSpan f fd) : FnOk P w K mg base CX0 1 f fd ["row", "value"] spRowSpan := by
  refine F.ok scRowSpan (fun vs H Q E h => ?_) (fun cdv A outer s H vs Q E hr h => ?_)
  · obtain ⟨r, v, rfl, _⟩ := h
    rfl
  · obtain ⟨r, v, rfl, kk⟩ := h
    refine ⟨_, pss_one (ps_ret (pe_tup (pa_cons (pv 0) (pa_cons pe_int (pa_cons (pv 1) (pa_cons (pv 1) (pa_cons (pv 1) pa_nil))))))), ?_⟩
    exact ⟨_, rfl, _, rfl, _, rfl, _, rfl, by show 5 ≤ sizeLine; decide, fun q hq => kk q _ hq (Ex.new hq) upd_same⟩
end
end K13
set_option Elab.async false
set_option linter.all false
set_option maxRecDepth 100000
set_option maxHeartbeats 4000000
namespace Pu
open PySem PySem.Spec PyProof.Rows L2
/-- the empty set as it is made -/
def bareSet (w : World) : Obj := { cls := .type "set", dict := none, data := .set #[] 0 (.fresh 0 0 (!w.params.followText "set-order")) }
section
variable {P : Program} {w : World} {A : Around} {E : Value → Shared → Prop} {s : Shared}
/-- set(x) of a list of ints: the way of the library's rule for tuples (SetFor), for lists -/
theorem set_of_ints {l : Addr} {xs : Array Value} (zs : List Int) {Q : Value → Shared → Prop} (free : A.handled = none) (isl : s.heap.IsList l xs) (itz : IntsAre xs.toList zs) (few : zs.length + 1 < scanBound)
    (k : ∀ (g : Heap) (tk c : Nat), SetR w g s.heap.objs.size (fun j => decide (j ∈ zs)) c → (∀ b o, s.heap.get? b = some o → g.get? b = some o) → Q (.ref s.heap.objs.size) { s with heap := g, toks := tk }) :
    wpAny (model P w) A (call (.type "set") [.ref l]) Q E s := by
  have size : xs.size = zs.length := by rw [← Array.length_toList]; exact IntsAre.length itz
  obtain ⟨c, tl, mro⟩ := F.called_set.mro
  have a1 := F.called_set.made; have a2 := F.called_set.sub
  refine wpAny_call (codeAny_of_tree ?_)
  show wpAny _ _ (callAny (.type "set") ⟨[.ref l], []⟩) _ _ _
  refine wpAny_pure ⟨Code.quiet_builtin _ (by decide +kernel), codeAny_builtin F.entry_type_call ?_⟩; rw [Around.under_plain (weight_type_call_type "set" [.ref l] []) rfl]
  have a3 := F.called_set.notType; have a4 := F.called_set.canCreate; have a5 := F.typeCall_set_1 (.ref l); repeat (any_goals (first | assumption | wp_step))
  refine codeAny_mono (code_set_led1 (.ref l) (E := E) (Q₁ := fun v t => v = .ref s.heap.objs.size ∧ t = { s with heap := s.heap.push (bareSet w) }) ⟨rfl, rfl⟩) fun r t hr => ?_
  match r, hr with
  | .error e, hr => exact hr
  | .ok (.next), hr => exact hr.elim
  | .ok (.brk), hr => exact hr.elim
  | .ok (.cont), hr => exact hr.elim
  | .ok (.ret v), hr =>
    obtain ⟨rfl, rfl⟩ := hr
    have at0 : (s.heap.push (bareSet w)).get? s.heap.objs.size = some (bareSet w) := Heap.get?_push_size _ rfl
    have ty : Shared.TypeIs { s with heap := s.heap.push (bareSet w) } (.ref s.heap.objs.size) "set" := ⟨_, at0, rfl⟩
    have b1 := F.called_set.init.lookup; have b2 := F.called_set.init.bind (.ref s.heap.objs.size); repeat (any_goals (first | assumption | wp_step))
    refine codeAny_mono (codeAny_call_builtin (R := wants (fun r t => r = .none ∧ ∃ g tk c, t = { s with heap := g, toks := tk } ∧ SetR w g s.heap.objs.size (fun j => decide (j ∈ zs)) c ∧
        (∀ b o, s.heap.get? b = some o → g.get? b = some o)) E) F.called_set.init.plain F.entry_set_init (check_set_init_1 ty ?_)) fun r2 t2 hr2 => ?_
    · obtain ⟨⟨oc, od, odt, osl⟩, ho, hc, nl, hd⟩ := isl
      dsimp only at hc hd; subst hc; subst hd
      have old : (s.heap.push (bareSet w)).get? l = some { cls := .type "list", dict := od, data := .seq xs nl, slots := osl } := Heap.get?_push_of_some _ ho
      have c1 := F.sub_list_set; have c2 := F.sub_list_frozenset; have c3 : (Value.type "list" == Value.type "dict") = false := by decide
      have isl1 : (s.heap.push (bareSet w)).IsList l xs := ⟨_, old, rfl, nl, rfl⟩
      unfold Builtin.«set.__init__» noKeywords Builtin.Frozenset.updateFrom
      generalize it : pyIter = PI; wp_walk; subst it
      refine wpAny_pyIter_list isl1 (wpAny_bind (wpAny_runValue ?_))
      have ll : l < s.heap.objs.size := Heap.lt_size ho
      have free3 : A.in1.in1.in1.handled = none := by simp [free]
      have ne : l ≠ (s.heap.push (bareSet w)).objs.size := by rw [Heap.size_push]; exact Nat.ne_of_lt (Nat.lt_succ_of_lt ll)
      have nin : s.heap.objs.size ∉ [(s.heap.push (bareSet w)).objs.size, l] := by
        rw [Heap.size_push]
        intro z
        rcases List.mem_cons.mp z with z | z
        · exact absurd z (Nat.ne_of_lt (Nat.lt_succ_self _))
        · exact absurd (List.mem_singleton.mp z) (Nat.ne_of_gt ll)
      have each : ∀ (i : Nat) (v : Value), xs[i]? = some v → ∃ k t, zs[i]? = some k ∧ v = .int k t := fun i v hv => by
        have hi : i < zs.length := by rw [← size]; exact (Array.getElem?_eq_some_iff.mp hv).1
        obtain ⟨t, e⟩ := PyProof.Rows.IntsAre.int_at itz i v (by rw [Array.getElem?_toList]; exact hv)
        exact ⟨zs[i], t, List.getElem?_eq_getElem hi, by rw [e, List.getD_eq_getElem?_getD, List.getElem?_eq_getElem hi] <;> rfl⟩
      refine set_update_ints ((Walks.list free3 _ l ne xs).toS) s.heap.objs.size nin zs size few each (xs.size - 0) 0 _ (by omega) (Nat.zero_le _) ⟨⟨_, Heap.get?_push_size _ rfl, rfl, rfl⟩, (isl1.push _)⟩ ?_ ?_
      · exact ⟨0, Nat.le_refl 0, setR_new_at (Heap.get?_push_of_some _ at0)⟩
      · intro t c' mv _ hS
        obtain ⟨g, g2, d2, k2, o2⟩ := t
        have e1 : g2 = s.gens := mv.gens
        have e2 : d2 = s.drawn := mv.drawn
        have e3 : o2 = s.os := mv.os
        subst e1 e2 e3
        show wpAny _ _ _ _ _ _
        refine wpAny_pure ?_
        show wpAny _ _ (ret Value.none) _ _ _
        refine wpAny_pure ⟨rfl, g, k2, c', rfl, hS, fun b o e => ?_⟩
        have hb : b < s.heap.objs.size := Heap.lt_size e
        refine mv.heap b o (fun z => ?_) (Heap.get?_push_of_some _ (Heap.get?_push_of_some _ e))
        rcases List.mem_cons.mp z with z | z
        · exact absurd z (Nat.ne_of_lt hb)
        · rw [Heap.size_push] at z
          exact absurd (List.mem_singleton.mp z) (Nat.ne_of_lt (Nat.lt_succ_of_lt hb))
    · match r2, hr2 with
      | .error e, hr2 => exact hr2
      | .ok (.next), hr2 => exact hr2.elim
      | .ok (.brk), hr2 => exact hr2.elim
      | .ok (.cont), hr2 => exact hr2.elim
      | .ok (.ret v), hr2 =>
        obtain ⟨rfl, g, tk, c', rfl, hS, kp⟩ := hr2
        (repeat (any_goals (first | assumption | wp_step))); exact k _ _ _ hS kp
end
end Pu
set_option Elab.async false
set_option linter.all false
set_option maxRecDepth 100000
set_option maxHeartbeats 4000000
namespace Pu
open PySem PySem.Spec PyProof.Rows L2 GxR
theorem nodup_le : ∀ {l m : List Int}, l.Nodup → (∀ x ∈ l, x ∈ m) → l.length ≤ m.length
  | [], _, _, _ => Nat.zero_le _
  | x :: l, m, hn, h => by
    have hx := h x (List.mem_cons_self ..)
    have n2 := List.nodup_cons.mp hn
    have ih := nodup_le (l := l) (m := m.erase x) n2.2 fun y hy => (List.mem_erase_of_ne (fun e => n2.1 (by rw [← e]; exact hy))).mpr (h y (List.mem_cons_of_mem _ hy))
    rw [List.length_erase_of_mem hx] at ih
    have : 0 < m.length := List.length_pos_of_mem hx
    rw [List.length_cons]
    omega
section
variable {X : Cx}
/-- sorted(set(x)), x a list of numbers below 63 -/
def tSortSet (K : PySem.W.Frag) (ta : TE) : TE := fun σ H Q => ta σ H fun x H1 => ∃ (l : Addr) (ns : List Int), x = .ref l ∧ SqL K H1 l (ns.map V.int) ∧ ns.length ≤ 4000 ∧ (∀ k ∈ ns, 0 ≤ k ∧ k < 63) ∧
  ∀ (ms : List Int) (p : Addr), ms.Pairwise (· < ·) → (∀ k : Int, k ∈ ms ↔ k ∈ ns) → H1 p = none → Q (.ref p) (upd H1 p (.lst (ms.map V.int)))
theorem setR_few {w : World} {h : Heap} {a : Addr} {ns : List Int} {c : Nat} (R : SetR w h a (fun j => decide (j ∈ ns)) c) (hb : ∀ k ∈ ns, 0 ≤ k ∧ k < 63) : c < 64 := by
  obtain ⟨o, es, ep, t, _, _, _, _, nd, mem, _, _, hn, _⟩ := R
  have h1 : (es.toList.map keyOf).length ≤ ((List.range 63).map fun i : Nat => (i : Int)).length := nodup_le nd fun k hk => by
    have := hb k (of_decide_eq_true ((mem k).mpr hk))
    exact List.mem_map.mpr ⟨k.toNat, List.mem_range.mpr (by omega), by omega⟩
  rw [List.length_map, List.length_map, List.length_range, Array.length_toList, hn] at h1
  omega
theorem sort_step {pins : List (Addr × Obj)} {s : Shared} {σ : L2.St} {H : Hp} {a : Addr} {S : Int → Bool} {c : Nat} {Q : VK} {E : Value → Shared → Prop} (hc : X.calm = true) (I : Inv X pins σ H s) (R : SetR X.w s.heap a S c) (h64 : c < 64)
    (q1 : ∀ (ms : List Int) (p : Addr), ms.Pairwise (· < ·) → (∀ k : Int, k ∈ ms ↔ S k = true) → H p = none → Q (.ref p) (upd H p (.lst (ms.map V.int)))) : wpAny (model X.prog X.w) X.A (call (.builtin "sorted") [.ref a]) (EP X pins σ Q) E s := by
  refine sorted_set R (I.ok.hd hc) h64 fun s' p out cc ms k g o hp hg' hi hs hm' hl' => ?_
  have hlt : (ms.map V.int).length ≤ sizeLine := by
    rw [List.length_map, hl', sizeLine_eq]
    omega
  have hn : H p = none := I.hok.fresh hp
  have J : Inv X pins σ (upd H p (.lst (ms.map V.int))) { s with heap := s'.heap, gens := s'.gens, drawn := s'.drawn, toks := s'.toks } := I.call (ch := []) (Un.laid k hp hn) (I.hok.laid k hp ⟨hlt, out.toList, cc, vals_of_ints hi, hg'⟩) (by rw [g]; exact I.bare) (fun _ z => nomatch z)
  have e : s' = { s with heap := s'.heap, gens := s'.gens, drawn := s'.drawn, toks := s'.toks } := by cases s'; cases s; cases o; rfl
  rw [e]
  exact ⟨.ref p, _, J, rfl, q1 ms p hs hm' hn⟩
theorem pe_sortSet {a : Expr} {ta : TE} {p p2 q pos : Pos} (hg : Gl X "sorted") (hm : X.mg "sorted" = none) (hg2 : Gl X "set") (hm2 : X.mg "set" = none) (ha : PE X a ta) (hc : X.calm = true := by rfl)
    (na : starEach [a] X.env = (false, eval a X.env) :: starEach [] X.env := by rfl) : PE X (.Call (.Name "sorted" p) [.Call (.Name "set" p2) [a] [] q] [] pos) (tSortSet X.K ta) := by
  refine ⟨fun pins s σ H Q I h => Call_ (ld_blt I hg hm boot_sorted (PyProof.Rows.callWith_builtin1 (PyProof.Rows.args_cons (Call_ (ld_blt I hg2 hm2 boot_set ?_)) rfl) rfl rfl))⟩
  refine PyProof.Rows.callWith_type1 (PyProof.Rows.args_cons (thn (ha.run pins s σ H _ I h) fun v s1 ⟨x, H1, I1, r1, q1⟩ => PyProof.Rows.args_nil ?_) na) na rfl
  obtain ⟨l, ns, rfl, hq, hl, hb, q1⟩ := q1
  cases (show v = Value.ref l from r1)
  obtain ⟨its, r, pl, hz⟩ := I1.list hq
  have hlen : its.toArray.size = ns.length := by rw [List.size_toArray, ← r.length, List.length_map]
  refine set_of_ints ns (I1.ok.hd hc) pl.isList (by simpa using RZ.intsAre_vals r) (by unfold scanBound; omega) fun h' tk c hS hk => PyProof.Rows.args_nil ?_
  have I2 : Inv X pins σ H1 { s1 with heap := h', toks := tk } := I1.kept fun b o e => hk b o e
  exact sort_step hc I2 hS (setR_few hS hb) fun ms p' hs hm' hn => q1 ms p' hs (fun k => by rw [hm' k]; exact decide_eq_true_iff) hn
end
end Pu
set_option Elab.async false
set_option linter.all false
set_option maxRecDepth 100000
set_option maxHeartbeats 4000000
namespace Pu
open PySem PySem.Spec PyProof.Rows L2 GxR Evl
def bodyOf : Stmt → List Stmt
  | .For _ _ b _ _ => b
  | .If _ b _ _ => b
  | _ => []
/-- a step of the law, told by the turn i -/
def Ti (X : Cx) (st : Stmt) (A B : Nat → L2.St → Hp → Prop) : Prop := ∃ t, PS X st t ∧ ∀ i D σ H, A i σ H → (∀ σ' H', B i σ' H' → D.nx σ' H') → t D σ H
def Tis (X : Cx) (l : List Stmt) (A B : Nat → L2.St → Hp → Prop) : Prop := ∃ t, PSs X l t ∧ ∀ i D σ H, A i σ H → (∀ σ' H', B i σ' H' → D.nx σ' H') → t D σ H
theorem Tis.cons {X : Cx} {st : Stmt} {l : List Stmt} {A B C : Nat → L2.St → Hp → Prop} (h : Ti X st A B) (k : Tis X l B C) : Tis X (st :: l) A C := by
  obtain ⟨t, h1, h2⟩ := h
  obtain ⟨u, k1, k2⟩ := k
  exact ⟨_, pss_cons h1 k1, fun i D σ H a q => h2 i { D with nx := u D } σ H a fun σ' H' b => k2 i D σ' H' b q⟩
theorem Tis.one {X : Cx} {st : Stmt} {A B : Nat → L2.St → Hp → Prop} (h : Ti X st A B) : Tis X [st] A B := by
  obtain ⟨t, h1, h2⟩ := h
  exact ⟨_, pss_one h1, h2⟩
theorem wipe1 {σ : L2.St} {j : Nat} {x : Option V} : wipe ((wipe σ [j]).set j x) [j] = wipe σ [j] := by
  show ((σ.set j none).set j x).set j none = σ.set j none
  rw [List.set_set, List.set_set]
theorem wipe_at {σ : L2.St} {j : Nat} {x : V} (h : j < σ.length) : ((wipe σ [j]).set j (some x))[j]? = some (some x) := sl_eq (by show j < (σ.set j none).length; rw [List.length_set]; exact h)
theorem wipe_ne {σ : L2.St} {i j : Nat} {x : Option V} {y : V} (h : σ[i]? = some (some y)) (n : j ≠ i) : ((wipe σ [j]).set j x)[i]? = some (some y) := sl_ne (sl_ne h n) n
theorem wipe_len {σ : L2.St} {j : Nat} {x : Option V} : ((wipe σ [j]).set j x).length = σ.length := by
  rw [List.length_set]
  show (σ.set j none).length = _
  rw [List.length_set]
theorem Sm.intI {a : Int} (h0 : 0 ≤ a) (h : a ≤ 1000000) : Sm 0 0 (.int a) := by
  obtain ⟨n, rfl⟩ := Int.eq_ofNat_of_zero_le h0
  exact Sm.int (by omega)
/-- a comprehension whose turns may change the heap: an invariant of the turn, the heap, what is made -/
theorem lc_inv {J : It} {n : Nat} {G : Hp → Prop} {Y : Nat → Hp → V → Hp → Prop} (w : Walk J n G Y) {g : TG} {tt : TT} {te : TE} {vs : List Nat} {σ : L2.St} {H1 : Hp} {D : Addr} {Qd : Hp → Prop} (R : Nat → Hp → List V → Prop) (hn : n ≤ 40000)
    (h0 : R 0 (upd H1 D (.lst [])) []) (hG : ∀ i H acc, R i H acc → G H)
    (turn : ∀ i x H H' acc, i < n → H D = some (.lst acc) → R i H acc → Y i H x H' → ∀ (Qy : V → Hp → Prop) (Qn : Hp → Prop), (∀ y H4, H4 D = some (.lst acc) → R (i + 1) (upd H4 D (.lst (acc ++ [y]))) (acc ++ [y]) → Qy y H4) → (∀ H3, H3 D = some (.lst acc) → R (i + 1) H3 acc → Qn H3) →
      g x (wipe σ vs) H' fun σ2 H2 => wipe σ2 vs = wipe σ vs ∧ tt σ2 H2 fun b H3 => if b = true then te σ2 H3 Qy else Qn H3)
    (hd : ∀ H acc, H D = some (.lst acc) → R n H acc → Qd H) :
    ∃ W : Nat → Nat → Hp → Prop, (∃ m, W 0 m (upd H1 D (.lst []))) ∧ ∀ i m H, W i m H →
      (J.stop i H ∧ Qd H) ∨ (J.go i H ∧ ∃ Nx : Hp → Prop, (∀ H', Nx H' → ∃ m', m' < m ∧ W (i + 1) m' H') ∧ ∀ x H', J.yld i H x H' → g x (wipe σ vs) H' fun σ2 H2 => wipe σ2 vs = wipe σ vs ∧ tt σ2 H2 fun b H3 =>
        if b = true then te σ2 H3 fun y H4 => ∃ acc, H4 D = some (.lst acc) ∧ acc.length < sizeLine ∧ Nx (upd H4 D (.lst (acc ++ [y]))) else Nx H3) := by
  refine lc_it w (fun i H => ∃ acc, H D = some (.lst acc) ∧ acc.length ≤ i ∧ R i H acc) ⟨[], upd_same, Nat.le_refl _, h0⟩ (fun i H _ p => ?_) (fun i x H H' hi p y => ?_) fun H p => ?_
  · obtain ⟨acc, _, _, r⟩ := p
    exact hG i H acc r
  · obtain ⟨acc, hH, hl, hR⟩ := p
    refine turn i x H H' acc hi hH hR y _ _ (fun v H4 h4 r4 => ?_) fun H3 h3 r3 => ⟨acc, h3, Nat.le_succ_of_le hl, r3⟩
    refine ⟨acc, h4, Nat.lt_of_le_of_lt (show acc.length ≤ 40000 by omega) (by decide), acc ++ [v], upd_same, ?_, r4⟩
    rw [List.length_append, List.length_singleton]
    omega
  · obtain ⟨acc, hH, _, hR⟩ := p
    exact hd H acc hH hR
end Pu
set_option Elab.async false
set_option linter.all false
set_option maxRecDepth 100000
set_option maxHeartbeats 4000000
namespace Pu
open PySem PySem.Spec PyProof.Rows L2 GxR Evl
theorem one_col {r : List V → Hp → VK → Prop} {te : TE} {σ : L2.St} {H : Hp} {Q : VK} (h : te σ H fun x H1 => r [x] H1 Q) : tCB r (tCons te tNil) σ H Q := h
end Pu
namespace K13
open PySem PySem.Spec PyProof.Rows L2 GxR Pu Evl
theorem scSpanOfAll : FnScope ["spans", "wholes", "low", "high", "span"] ["spans"] (defScope sSpanOfAll) := ⟨rfl, rfl, rfl, by decide +kernel, rfl, by decide +kernel, by decide +kernel⟩
/-- all spans of a sequence, told as one -/
def spAll (K : PySem.W.Frag) : Sp := fun vs H Q _ => ∃ (e : Addr) (L : List S5) (xs : List V) (s0 s1 : S5), vs = [.ref e] ∧ SqE K H e xs ∧ Paired (SpE K H) L xs ∧ L.length ≤ 2000 ∧ L[0]? = some s0 ∧ L[L.length - 1]? = some s1 ∧
  ∀ lo hi q H', lo ∈ L.map S5.lo → (∀ y ∈ L.map S5.lo, lo ≤ y) → hi ∈ L.map S5.hi → (∀ y ∈ L.map S5.hi, y ≤ hi) → H q = none → Ex H H' →
    H' q = some (.tup [.int (s0.f : Int), .int ((s1.f : Int) + s1.n - s0.f), .int (L.map S5.w).sum, .int lo, .int hi]) → Q (.ref q) H'
theorem atI_last {xs : List V} {v : V} (h : xs[xs.length - 1]? = some v) : atI xs (-1) = some v := by
  have hl : 0 < xs.length := by
    cases xs with
    | nil => cases h
    | cons _ _ => exact Nat.succ_pos _
  unfold atI ixN
  rw [if_neg (by omega), if_pos (by omega)]
  show xs[((xs.length : Int) + -1).toNat]? = some v
  rw [show ((xs.length : Int) + -1).toNat = xs.length - 1 by omega]
  exact h
section
variable {P : Program} {w : World} {K : PySem.W.Frag} {mg : Str → Option Value} {base : Heap} {σ : L2.St} {H : Hp}
variable {fBe : Addr} {dBe : FuncData}
/-- x[j] of a span -/
theorem rd_ix {s : S5} {v x : V} {j : Nat} {Q : VK} (h : SpE K H s v) (hx : s.vs[j]? = some x) (q : Q x H) : rIx K v (.int (j : Int)) H Q := by
  obtain ⟨b, rfl, q1 | q1⟩ := h
  · exact .inr (.inl ⟨b, _, _, _, rfl, rfl, q1, atI_nat hx, q⟩)
  · exact .inl ⟨b, _, _, _, rfl, rfl, q1, atI_nat hx, q⟩
/-- [span[j] for span in spans] -/
theorem q_col {e : Addr} {L : List S5} {xs : List V} {j : Nat} {g : S5 → Int} (len : σ.length = 5) (h0 : σ[0]? = some (some (.ref e))) (he : SqE K H e xs) (hw : Paired (SpE K H) L xs) (hl : L.length ≤ 2000) (hg : ∀ s : S5, s.vs[j]? = some (V.int (g s))) {Q : VK}
    (k : ∀ D H', Ex H H' → H' D = some (.lst ((L.map g).map V.int)) → Q (.ref D) H') : tLc (iSeq K (tVar 0)) (gName 4) tYes (tOp (rIx K) (tVar 4) (tC (.int (j : Int)))) [4] σ H Q := by
  have hxl : L.length = xs.length := Paired.length hw
  refine ⟨.ref e, h0, e, xs, rfl, he, fun J Gd wk hG D' hD => ?_⟩
  refine lc_gen wk (fun m H' acc => acc = ((L.take m).map g).map V.int) (by omega) hD (fun m H xs ys acc h r => r) rfl hG ?_ ?_
  · intro m y Ha Hb acc hi ex yy hR Qy Qn hy hn
    obtain ⟨rfl, hx⟩ := yy
    obtain ⟨s, hs, hp⟩ := Paired.atR hw hx
    have tk : L.take (m + 1) = L.take m ++ [s] := by rw [List.take_add_one, hs]; rfl
    refine ⟨wipe1, yes_then ⟨_, wipe_at (by rw [len]; decide), rd_ix (hp.ex ex) (hg s) (hy _ _ (Ex.refl _) ?_)⟩⟩
    rw [tk, hR, List.map_append, List.map_append]
    rfl
  · intro H4 acc e4 hD4 hR
    rw [← hxl, List.take_length] at hR
    exact k D' H4 e4 (by rw [hD4, hR])
theorem ok_span_of_all {f : Addr} {fd : FuncData} (G : Mg mg) (hsum : mg "sum" = none) (F : Fun K "span_of_all" "span_of_all" sSpanOfAll f fd) (F1 : Fns K mg "behind" ["span"] sBehind fBe dBe) : FnOk P w K mg base CX0 2 f fd ["spans"] (spAll K) := by
  have G1 : FnOk P w K mg base CX0 1 fBe dBe ["span"] (spBehind K) := ok_behind F1.fn
  refine F.ok scSpanOfAll (fun vs H Q E h => ?_) (fun cdv A outer s H vs Q E hr h => ?_)
  · obtain ⟨e, L, xs, s0, s1, rfl, _⟩ := h
    rfl
  · obtain ⟨e, L, xs, s0, s1, rfl, he, hw, hl, h0, h1, kk⟩ := h
    refine ⟨_, pss_cons (ps_set (i := 1) scSpanOfAll.nd rfl (.inl rfl) (pe_callB (cr_sum rfl) (by rfl) hsum boot_sum (pa_cons (pe_lc (own := [("span", 4)]) (te := tOp (rIx K) (tVar 4) (tC (.int 2))) (by rfl) scSpanOfAll.nd (pi_seq (pv 0)) (blkOk_by (own := [("span", 4)]) (N := ["spans", "wholes", "low", "high", "span"]) (sc := defScope sSpanOfAll) (by decide +kernel))
            (fun _ _ _ _ _ => pg_name (i := 4) scSpanOfAll.nd rfl (.inl rfl)) (fun _ _ _ _ _ => pts_nil) (fun _ _ _ _ _ => pe_ix ix_seq (pv 4) pe_int (fun _ _ => rfl))) pa_nil)))
      (pss_cons (ps_set (i := 2) scSpanOfAll.nd rfl (.inl rfl) (pe_callB (cr_min rfl) (by rfl) G.min boot_min (pa_cons (pe_lc (own := [("span", 4)]) (te := tOp (rIx K) (tVar 4) (tC (.int 3))) (by rfl) scSpanOfAll.nd (pi_seq (pv 0)) (blkOk_by (own := [("span", 4)]) (N := ["spans", "wholes", "low", "high", "span"]) (sc := defScope sSpanOfAll) (by decide +kernel))
            (fun _ _ _ _ _ => pg_name (i := 4) scSpanOfAll.nd rfl (.inl rfl)) (fun _ _ _ _ _ => pts_nil) (fun _ _ _ _ _ => pe_ix ix_seq (pv 4) pe_int (fun _ _ => rfl))) pa_nil)))
      (pss_cons (ps_set (i := 3) scSpanOfAll.nd rfl (.inl rfl) (pe_callB (cr_max rfl) (by rfl) G.max boot_max (pa_cons (pe_lc (own := [("span", 4)]) (te := tOp (rIx K) (tVar 4) (tC (.int 4))) (by rfl) scSpanOfAll.nd (pi_seq (pv 0)) (blkOk_by (own := [("span", 4)]) (N := ["spans", "wholes", "low", "high", "span"]) (sc := defScope sSpanOfAll) (by decide +kernel))
            (fun _ _ _ _ _ => pg_name (i := 4) scSpanOfAll.nd rfl (.inl rfl)) (fun _ _ _ _ _ => pts_nil) (fun _ _ _ _ _ => pe_ix ix_seq (pv 4) pe_int (fun _ _ => rfl))) pa_nil)))
      (pss_one (ps_ret (pe_tup (pa_cons (pe_ix ix_seq (pe_ix ix_seq (pv 0) pe_int (fun _ _ => rfl)) pe_int (fun _ _ => rfl)) (pa_cons (pe_op op_sub (pe_call G1 hr (by rfl) F1.mg F1.fn.kp F1.bd .nil pass0 (pa_cons (pe_ix ix_seq (pv 0) (pe_un un_neg pe_int) (fun _ _ => rfl)) pa_nil))
          (pe_ix ix_seq (pe_ix ix_seq (pv 0) pe_int (fun _ _ => rfl)) pe_int (fun _ _ => rfl))) (pa_cons (pv 1) (pa_cons (pv 2) (pa_cons (pv 3) pa_nil)))))))))), ?_⟩
    have ne : 0 < L.length := (List.getElem?_eq_some_iff.mp h0).1
    have hxl : L.length = xs.length := Paired.length hw
    have mapne : ∀ g : S5 → Int, 0 < (L.map g).length := fun g => by rw [List.length_map]; exact ne
    refine Pu.one_col (q_col (g := S5.w) (j := 2) rfl rfl he hw hl (fun s => rfl) fun D1 H1 e1 d1 => ⟨D1, L.map S5.w, rfl, SqL.of d1, ?_⟩)
    refine Pu.one_col (q_col (g := S5.lo) (j := 3) rfl rfl (SqE.ex he e1) (Paired.mapP hw fun _ _ h => h.ex e1) hl (fun s => rfl) fun D2 H2 e2 d2 => ⟨D2, L.map S5.lo, rfl, SqL.of d2, mapne _, fun lo l1 l2 => ?_⟩)
    have e12 := e1.trans e2
    refine Pu.one_col (q_col (g := S5.hi) (j := 4) rfl rfl (SqE.ex he e12) (Paired.mapP hw fun _ _ h => h.ex e12) hl (fun s => rfl) fun D3 H3 e3 d3 => ⟨D3, L.map S5.hi, rfl, SqL.of d3, mapne _, fun hi l3 l4 => ?_⟩)
    have e13 := e12.trans e3
    have he3 := SqE.ex he e13
    have hw3 := Paired.mapP hw fun _ _ h => h.ex e13
    have first : ∀ {H5 : Hp} {Q : VK}, Ex H3 H5 → (∀ x, SpE K H5 s0 x → Q x H5) → rIx K (.ref e) (.int (0 : Int)) H5 Q := fun {H5 Q} e5 k => by
      obtain ⟨x, hx, p⟩ : ∃ x, xs[0]? = some x ∧ SpE K H3 s0 x := by
        have l0 : 0 < xs.length := by omega
        obtain ⟨s, hs, p⟩ := Paired.atR hw3 (List.getElem?_eq_getElem l0)
        rw [h0] at hs
        cases hs
        exact ⟨_, List.getElem?_eq_getElem l0, p⟩
      have a0 : atI xs ((0 : Nat) : Int) = some x := atI_nat hx
      rcases SqE.ex he3 e5 with q | q
      · exact .inr (.inl ⟨e, _, _, _, rfl, rfl, q, a0, k x (p.ex e5)⟩)
      · exact .inl ⟨e, _, _, _, rfl, rfl, q, a0, k x (p.ex e5)⟩
    have last : ∀ {Q : VK}, (∀ x, SpE K H3 s1 x → Q x H3) → rIx K (.ref e) (.int (-1)) H3 Q := fun {Q} k => by
      obtain ⟨x, hx, p⟩ : ∃ x, xs[xs.length - 1]? = some x ∧ SpE K H3 s1 x := by
        have l0 : xs.length - 1 < xs.length := by omega
        obtain ⟨s, hs, p⟩ := Paired.atR hw3 (List.getElem?_eq_getElem l0)
        rw [← hxl, h1] at hs
        cases hs
        exact ⟨_, List.getElem?_eq_getElem l0, p⟩
      have a0 : atI xs (-1) = some x := atI_last hx
      rcases he3 with q | q
      · exact .inr (.inl ⟨e, _, _, _, rfl, rfl, q, a0, k x p⟩)
      · exact .inl ⟨e, _, _, _, rfl, rfl, q, a0, k x p⟩
    refine ⟨.ref e, rfl, first (Ex.refl H3) fun x px => rd_ix (j := 0) px rfl ?_⟩
    refine ⟨.ref e, rfl, 1, rfl, last fun y py => ⟨s1, y, rfl, py, fun H4 e4 => ?_⟩⟩
    refine ⟨.ref e, rfl, first e4 fun x5 px5 => rd_ix (j := 0) px5 rfl ⟨_, _, rfl, rfl, _, rfl, _, rfl, _, rfl, by show 5 ≤ sizeLine; decide, fun q hq => ?_⟩⟩
    exact kk lo hi q _ l1 l2 l3 l4 (fresh_back (e13.trans e4) hq) (e13.trans (e4.trans (Ex.new hq))) upd_same
end
end K13
set_option Elab.async false
set_option linter.all false
set_option maxRecDepth 100000
set_option maxHeartbeats 4000000
namespace K13
open PySem PySem.Spec PyProof.Rows L2 GxR Pu Evl
theorem scJoin : FnScope ["one", "other"] ["one", "other"] (defScope sJoin) := ⟨rfl, rfl, rfl, by decide +kernel, rfl, by decide +kernel, by decide +kernel⟩
/-- two spans side by side, told as one -/
def S5.join (s t : S5) : S5 := ⟨s.f, s.n + t.n, s.w + t.w, min s.lo t.lo, max s.hi t.hi⟩
def spJoin (K : PySem.W.Frag) : Sp := fun vs H Q _ => ∃ (s t : S5) (v u : V), vs = [v, u] ∧ SpE K H s v ∧ SpE K H t u ∧ s.Ok ∧ t.Ok ∧ t.n = s.n ∧ t.f = s.f + s.n ∧ ∀ q H', H q = none → Ex H H' → H' q = some (.tup (s.join t).vs) → Q (.ref q) H'
section
variable {P : Program} {w : World} {K : PySem.W.Frag} {mg : Str → Option Value} {base : Heap} {σ : L2.St} {H : Hp}
variable {fBe fSp fAl : Addr} {dBe dSp dAl : FuncData}
theorem ev_span {x : Nat} {s : S5} {v : V} (M : L2.Mod K mg base) (hv : σ[x]? = some (some v)) (h : SpE K H s v) (ok : s.Ok) : Ev (tCall (spPure P w base ["value"] pSpan) [] E0 (tCons (tVar x) tNil)) σ H (.bl true) :=
  ev_call (ea_cons (ev_var hv) ea_nil) (spPure.use rfl fun H1 e1 g okk bx => by
    obtain ⟨b, rfl, q⟩ := h.ex e1
    obtain ⟨bb, its, rv, sq⟩ := TyG.of_sq okk (M.kin.keeps bx) q
    exact ⟨b, bb, its, s.f, s.n, s.w, s.lo, s.hi, rfl, sq, rv, ok, rfl⟩)
theorem ok_join {f : Addr} {fd : FuncData} (M : L2.Mod K mg base) (F : Fun K "join" "join" sJoin f fd) (F1 : Fns K mg "is_span" ["value"] sIsSpan fSp dSp) (G1 : PF P w K mg base 4 fSp dSp ["value"] pSpan) (F2 : Fns K mg "behind" ["span"] sBehind fBe dBe)
    (F3 : Fns K mg "span_of_all" ["spans"] sSpanOfAll fAl dAl) (G3 : FnOk P w K mg base CX0 2 fAl dAl ["spans"] (spAll K)) : FnOk P w K mg base CX0 5 f fd ["one", "other"] (spJoin K) := by
  have G1' : FnOk P w K mg base CX0 4 fSp dSp ["value"] (spPure P w base ["value"] pSpan) := G1.ok
  have G2 : FnOk P w K mg base CX0 1 fBe dBe ["span"] (spBehind K) := ok_behind F2.fn
  refine F.ok scJoin (fun vs H Q E h => ?_) (fun cdv A outer s H vs Q E hr h => ?_)
  · obtain ⟨s, t, v, u, rfl, _⟩ := h
    rfl
  · obtain ⟨s, t, v, u, rfl, hs, ht, os, ot, en, ef, kk⟩ := h
    refine ⟨_, pss_cons (ps_if (pt_not (pt_val (pe_call G1' hr (by rfl) F1.mg F1.fn.kp F1.bd .nil pass0 (pa_cons (pv 0) pa_nil)))) pss_never pss_nil)
      (pss_cons (ps_if (PW.pt (pw_or (pt_not (pt_val (pe_call G1' hr (by rfl) F1.mg F1.fn.kp F1.bd .nil pass0 (pa_cons (pv 1) pa_nil)))) (pw_or (pt_cmpR op_ne (pe_ix ix_seq (pv 1) pe_int (fun _ _ => rfl)) (pe_ix ix_seq (pv 0) pe_int (fun _ _ => rfl)) (nomark _))
        (pw_or1 (pt_cmpR op_ne (pe_ix ix_seq (pv 1) pe_int (fun _ _ => rfl)) (pe_call G2 (hr.mono (by decide)) (by rfl) F2.mg F2.fn.kp F2.bd .nil pass0 (pa_cons (pv 0) pa_nil)) (nomark _)))))) pss_never pss_nil)
      (pss_one (ps_ret (pe_call G3 (hr.mono (by decide)) (by rfl) F3.mg F3.fn.kp F3.bd .nil pass0 (pa_cons (pe_tup (pa_cons (pv 0) (pa_cons (pv 1) pa_nil))) pa_nil))))), ?_⟩
    refine ev_span M rfl hs os H (Ex.refl H) _ fun H1 e1 => ⟨true, rfl, ite2 (fun z => nomatch z) fun _ => ?_⟩
    refine ev_span M rfl (ht.ex e1) ot H1 (Ex.refl H1) _ fun H2 e2 => ⟨true, rfl, ite2 (fun z => nomatch z) fun _ => ?_⟩
    have e12 := e1.trans e2
    refine ⟨_, rfl, rd_ix (j := 1) (ht.ex e12) rfl ⟨_, rfl, rd_ix (j := 1) (hs.ex e12) rfl ⟨rfl, _, rfl, ite2 (fun z => absurd z (by rw [en]; simp)) fun _ => ?_⟩⟩⟩
    refine ⟨_, rfl, rd_ix (j := 0) (ht.ex e12) rfl ⟨_, rfl, s, v, rfl, hs.ex e12, fun H3 e3 => ⟨rfl, _, rfl, ite2 (fun z => absurd z (by rw [ef]; simp)) fun _ => ?_⟩⟩⟩
    have e13 := e12.trans e3
    refine ⟨_, rfl, _, rfl, by show 2 ≤ sizeLine; decide, fun r hr => ?_⟩
    have e4 := Ex.new hr (o := .tup [v, u])
    have e14 := e13.trans e4
    refine ⟨r, [s, t], [v, u], s, t, rfl, .inl (SqT.of upd_same), .cons (hs.ex e14) (.cons (ht.ex e14) .nil), by show 2 ≤ 2000; decide, rfl, rfl, fun lo hi q H5 m1 m2 m3 m4 hq e5 h5 => ?_⟩
    have l1 : lo = min s.lo t.lo := by
      have a := m2 s.lo (by simp)
      have b := m2 t.lo (by simp)
      have c : lo = s.lo ∨ lo = t.lo := by simpa using m1
      omega
    have l2 : hi = max s.hi t.hi := by
      have a := m4 s.hi (by simp)
      have b := m4 t.hi (by simp)
      have c : hi = s.hi ∨ hi = t.hi := by simpa using m3
      omega
    refine kk q H5 (fresh_back e14 hq) (e14.trans e5) ?_
    rw [h5, l1, l2]
    have n1 : ((t.f : Int) + t.n - s.f) = ((s.n + t.n : Nat) : Int) := by omega
    have w1 : ([s, t].map S5.w).sum = s.w + t.w := by simp
    rw [n1, w1]
    rfl
end
end K13
set_option Elab.async false
set_option linter.all false
set_option maxRecDepth 100000
set_option maxHeartbeats 4000000
namespace K13
open PySem PySem.Spec PyProof.Rows L2 GxR Pu Evl
theorem scEmpty : FnScope [] [] (defScope sEmptyStore) := ⟨rfl, rfl, rfl, by decide +kernel, rfl, by decide +kernel, by decide +kernel⟩
theorem scShapeOf : FnScope ["store", "span"] ["store"] (defScope sShapeOf) := ⟨rfl, rfl, rfl, by decide +kernel, rfl, by decide +kernel, by decide +kernel⟩
theorem scLetGo : FnScope ["store", "below", "laid", "last", "spans", "span"] ["store", "below"] (defScope sLetGo) := ⟨rfl, rfl, rfl, by decide +kernel, rfl, by decide +kernel, by decide +kernel⟩
def nonV : Option Nat → V
  | none => .non
  | some n => .int (n : Int)
def SpT (H : Hp) (s : S5) (v : V) : Prop := ∃ b, v = .ref b ∧ H b = some (.tup s.vs)
/-- a store as tuples -/
def StT (H : Hp) (l : Nat) (la : Option Nat) (L : List S5) (v : V) : Prop := ∃ a e xs, v = .ref a ∧ H a = some (.tup [.int (l : Int), nonV la, .ref e]) ∧ H e = some (.tup xs) ∧ Paired (SpT H) L xs
/-- a store as tuples or lists -/
def StE (K : PySem.W.Frag) (H : Hp) (l : Nat) (la : Option Nat) (L : List S5) (v : V) : Prop := ∃ a e xs, v = .ref a ∧ SqE K H a [.int (l : Int), nonV la, .ref e] ∧ SqE K H e xs ∧ Paired (SpE K H) L xs
section
variable {P : Program} {w : World} {K : PySem.W.Frag} {mg : Str → Option Value} {base : Heap} {σ : L2.St} {H H' : Hp}
variable {fBe fNN fNum fInt : Addr} {dBe dNN dNum dInt : FuncData}
theorem SpT.ex {s : S5} {v : V} (h : SpT H s v) (e : Ex H H') : SpT H' s v := by
  obtain ⟨b, rfl, q⟩ := h
  exact ⟨b, rfl, e _ _ q⟩
theorem SpT.e {s : S5} {v : V} (h : SpT H s v) : SpE K H s v := by
  obtain ⟨b, rfl, q⟩ := h
  exact ⟨b, rfl, .inl (SqT.of q)⟩
theorem StT.ex {l : Nat} {la : Option Nat} {L : List S5} {v : V} (h : StT H l la L v) (e : Ex H H') : StT H' l la L v := by
  obtain ⟨a, b, xs, rfl, h1, h2, h3⟩ := h
  exact ⟨a, b, xs, rfl, e _ _ h1, e _ _ h2, Paired.mapP h3 fun _ _ h => h.ex e⟩
theorem StT.e {l : Nat} {la : Option Nat} {L : List S5} {v : V} (h : StT H l la L v) : StE K H l la L v := by
  obtain ⟨a, b, xs, rfl, h1, h2, h3⟩ := h
  exact ⟨a, b, xs, rfl, .inl (SqT.of h1), .inl (SqT.of h2), Paired.mapP h3 fun _ _ h => h.e⟩
theorem StE.ex {l : Nat} {la : Option Nat} {L : List S5} {v : V} (h : StE K H l la L v) (e : Ex H H') : StE K H' l la L v := by
  obtain ⟨a, b, xs, rfl, h1, h2, h3⟩ := h
  exact ⟨a, b, xs, rfl, SqE.ex h1 e, SqE.ex h2 e, Paired.mapP h3 fun _ _ h => h.ex e⟩
def spEmpty : Sp := fun vs H Q _ => vs = [] ∧ ∀ v H', Ex H H' → StT H' 0 none [] v → Q v H'
theorem ok_empty {f : Addr} {fd : FuncData} (F : Fun K "empty_store" "empty_store" sEmptyStore f fd) : FnOk P w K mg base CX0 1 f fd [] spEmpty := by
  refine F.ok scEmpty (fun vs H Q E h => ?_) (fun cdv A outer s H vs Q E hr h => ?_)
  · obtain ⟨rfl, _⟩ := h
    rfl
  · obtain ⟨rfl, kk⟩ := h
    refine ⟨_, pss_one (ps_ret (pe_tup (pa_cons pe_int (pa_cons pe_non (pa_cons (pe_tup pa_nil) pa_nil))))), ?_⟩
    refine ⟨by show 0 ≤ sizeLine; decide, fun q hq => ⟨by show 3 ≤ sizeLine; decide, fun r hr => kk _ _ ((Ex.new hq).trans (Ex.new hr)) ⟨r, q, [], rfl, upd_same, Ex.new hr _ _ upd_same, .nil⟩⟩⟩
/-- what a store tells of its spans -/
def spShapeOf (K : PySem.W.Frag) : Sp := fun vs H Q _ => ∃ (l : Nat) (la : Option Nat) (L : List S5) (v : V), vs = [v] ∧ StE K H l la L v ∧ L.length ≤ 2000 ∧ ∀ q xs H', H q = none → Ex H H' → H' q = some (.tup xs) → PrT H' (L.map fun s => (s.f, s.n)) xs → Q (.ref q) H'
theorem ok_shape_of {f : Addr} {fd : FuncData} (G : Mg mg) (F : Fun K "shape_of" "shape_of" sShapeOf f fd) : FnOk P w K mg base CX0 1 f fd ["store"] (spShapeOf K) := by
  refine F.ok scShapeOf (fun vs H Q E h => ?_) (fun cdv A outer s H vs Q E hr h => ?_)
  · obtain ⟨l, la, L, v, rfl, _⟩ := h
    rfl
  · obtain ⟨l, la, L, v, rfl, hs, hl, kk⟩ := h
    obtain ⟨a, e, xs, rfl, ha, he, hw⟩ := hs
    refine ⟨_, pss_one (ps_ret (pe_callTy (T := "tuple") call_tuple_of (by rfl) G.tuple (by decide +kernel) (pa_cons (pe_lc (own := [("span", 1)]) (te := tTup (tCons (tOp (rIx K) (tVar 1) (tC (.int 0))) (tCons (tOp (rIx K) (tVar 1) (tC (.int 1))) tNil))) (by rfl) scShapeOf.nd
      (pi_seq (pe_ix ix_seq (pv 0) pe_int (fun _ _ => rfl))) (blkOk_by (own := [("span", 1)]) (N := ["store", "span"]) (sc := defScope sShapeOf) (by decide +kernel)) (fun _ _ _ _ _ => pg_name (i := 1) scShapeOf.nd rfl (.inl rfl)) (fun _ _ _ _ _ => pts_nil)
      (fun _ _ _ _ _ => pe_tup (pa_cons (pe_ix ix_seq (pv 1) pe_int (fun _ _ => rfl)) (pa_cons (pe_ix ix_seq (pv 1) pe_int (fun _ _ => rfl)) pa_nil)))) pa_nil))), ?_⟩
    have hxl : L.length = xs.length := Paired.length hw
    have i2 : atI [V.int (l : Int), nonV la, .ref e] ((2 : Nat) : Int) = some (.ref e) := atI_nat rfl
    have main : ∀ {Qx : VK}, (Qx (.ref e) H) → rIx K (.ref a) (.int 2) H Qx := fun {Qx} k => by
      rcases ha with q | q
      · exact .inr (.inl ⟨a, _, _, _, rfl, rfl, q, i2, k⟩)
      · exact .inl ⟨a, _, _, _, rfl, rfl, q, i2, k⟩
    refine ⟨.ref a, rfl, main ⟨e, xs, rfl, he, fun J Gd wk hG D hD => ?_⟩⟩
    refine lc_gen wk (fun m H' acc => (∃ z, H' D = some (.lst z)) ∧ Paired (fun (p : Nat × Nat) (v : V) => ∃ b, v = .ref b ∧ b ≠ D ∧ H' b = some (.tup [.int (p.1 : Nat), .int (p.2 : Nat)])) ((L.take m).map fun s => (s.f, s.n)) acc) (by omega) hD (fun m H' xs ys acc h r => ?_) ⟨⟨[], upd_same⟩, .nil⟩ hG ?_ ?_
    · exact ⟨⟨ys, upd_same⟩, Paired.mapP r.2 fun p v ⟨b, h1, h2, h3⟩ => ⟨b, h1, h2, by rw [upd_ne h2]; exact h3⟩⟩
    · intro m y Ha Hb acc hi ex yy hR Qy Qn hy hn
      obtain ⟨rfl, hx⟩ := yy
      obtain ⟨⟨z, hz⟩, hR⟩ := hR
      obtain ⟨s, hs, hp⟩ := Paired.atR hw hx
      have tk : L.take (m + 1) = L.take m ++ [s] := by rw [List.take_add_one, hs]; rfl
      have px := hp.ex ex
      refine ⟨wipe1, yes_then ⟨_, wipe_at (by show 1 < 2; decide), rd_ix (j := 0) px rfl ⟨_, wipe_at (by show 1 < 2; decide), rd_ix (j := 1) px rfl ⟨by show 2 ≤ sizeLine; decide, fun r hr => hy _ _ (Ex.new hr) ?_⟩⟩⟩⟩
      rw [tk, List.map_append]
      exact ⟨⟨z, Ex.new hr _ _ hz⟩, Paired.app (Paired.mapP hR fun p v ⟨b, h1, h2, h3⟩ => ⟨b, h1, h2, Ex.new hr _ _ h3⟩) (.cons ⟨r, rfl, (fun e => by rw [e, hz] at hr; cases hr), upd_same⟩ .nil)⟩
    · intro H4 acc e4 hD4 hR
      rw [← hxl, List.take_length] at hR
      refine ⟨D, acc, rfl, .inl ⟨SqL.of hD4, fun q hq => ?_⟩⟩
      have e5 := Ex.new hq (o := .tup acc)
      exact kk q acc _ (fresh_back e4 hq) (e4.trans e5) upd_same (Paired.mapP hR.2 fun p v ⟨b, h1, h2, h3⟩ => ⟨b, h1, e5 _ _ h3⟩)
end
end K13
set_option Elab.async false
set_option linter.all false
set_option maxRecDepth 100000
set_option maxHeartbeats 4000000
namespace K13
open PySem PySem.Spec PyProof.Rows L2 GxR Pu Evl
/-- the spans that stay -/
def stay (L : List S5) (b : Nat) : List S5 := L.filter fun s => decide ((s.f : Int) + s.n > (b : Int))
def LT (H : Hp) (q : Addr) (xs : List V) : Prop := H q = some (.lst xs) ∨ H q = some (.tup xs)
def SpH (H : Hp) (s : S5) (v : V) : Prop := ∃ b, v = .ref b ∧ LT H b s.vs
/-- a store of the law's own, as tuples or lists -/
def StH (H : Hp) (l : Nat) (la : Option Nat) (L : List S5) (v : V) : Prop := ∃ a e xs, v = .ref a ∧ LT H a [.int (l : Int), nonV la, .ref e] ∧ LT H e xs ∧ Paired (SpH H) L xs
section
variable {P : Program} {w : World} {K : PySem.W.Frag} {mg : Str → Option Value} {base : Heap} {σ : L2.St} {H H' : Hp}
variable {fBe fNN fNum fInt : Addr} {dBe dNN dNum dInt : FuncData}
theorem LT.ex {q : Addr} {xs : List V} (h : LT H q xs) (e : Ex H H') : LT H' q xs := h.imp (e _ _) (e _ _)
theorem LT.e {q : Addr} {xs : List V} (h : LT H q xs) : SqE K H q xs := h.symm.imp SqT.of SqL.of
theorem SpH.ex {s : S5} {v : V} (h : SpH H s v) (e : Ex H H') : SpH H' s v := by
  obtain ⟨b, rfl, q⟩ := h
  exact ⟨b, rfl, q.ex e⟩
theorem SpH.e {s : S5} {v : V} (h : SpH H s v) : SpE K H s v := by
  obtain ⟨b, rfl, q⟩ := h
  exact ⟨b, rfl, q.e⟩
theorem StT.h {l : Nat} {la : Option Nat} {L : List S5} {v : V} (h : StT H l la L v) : StH H l la L v := by
  obtain ⟨a, b, xs, rfl, h1, h2, h3⟩ := h
  exact ⟨a, b, xs, rfl, .inr h1, .inr h2, Paired.mapP h3 fun _ _ ⟨b, h1, h2⟩ => ⟨b, h1, .inr h2⟩⟩
theorem StH.ex {l : Nat} {la : Option Nat} {L : List S5} {v : V} (h : StH H l la L v) (e : Ex H H') : StH H' l la L v := by
  obtain ⟨a, b, xs, rfl, h1, h2, h3⟩ := h
  exact ⟨a, b, xs, rfl, h1.ex e, h2.ex e, Paired.mapP h3 fun _ _ h => h.ex e⟩
def rTupO (K : PySem.W.Frag) (xs : List V) (H : Hp) (Q : VK) : Prop := ∃ p ys, xs = [.ref p] ∧ ((SqL K H p ys ∧ ∀ l, H l = none → Q (.ref l) (upd H l (.tup ys))) ∨ (SqT K H p ys ∧ Q (.ref p) H))
theorem tup_of {q : Addr} {ys : List V} {Q : VK} (h : LT H q ys) (k : ∀ r H', Ex H H' → H' r = some (.tup ys) → Q (.ref r) H') : rTupO K [.ref q] H Q := by
  rcases h with h | h
  · exact ⟨q, ys, rfl, .inl ⟨SqL.of h, fun r hr => k r _ (Ex.new hr) upd_same⟩⟩
  · exact ⟨q, ys, rfl, .inr ⟨SqT.of h, k q H (Ex.refl H) h⟩⟩
def spLetGo : Sp := fun vs H Q _ => ∃ (l : Nat) (la : Option Nat) (L : List S5) (v : V) (b : Nat), vs = [v, .int (b : Int)] ∧ StH H l la L v ∧ L.length ≤ 2000 ∧ ∀ u H', Ex H H' → StT H' l la (stay L b) u → Q u H'
theorem ok_let_go {f : Addr} {fd : FuncData} (G : Mg mg) (F : Fun K "let_go" "let_go" sLetGo f fd) (F1 : Fns K mg "need_number" ["value"] sNeedNumber fNN dNN) (G1 : FnOk P w K mg base CX0 3 fNN dNN ["value"] (spV pNat)) (F2 : Fns K mg "behind" ["span"] sBehind fBe dBe) : FnOk P w K mg base CX0 4 f fd ["store", "below"] spLetGo := by
  have G2 : FnOk P w K mg base CX0 1 fBe dBe ["span"] (spBehind K) := ok_behind F2.fn
  refine F.ok scLetGo (fun vs H Q E h => ?_) (fun cdv A outer s H vs Q E hr h => ?_)
  · obtain ⟨l, la, L, v, b, rfl, _⟩ := h
    rfl
  · obtain ⟨l, la, L, v, b, rfl, hs, hl, kk⟩ := h
    refine ⟨_, pss_cons (ps_expr (pe_call G1 hr (by rfl) F1.mg F1.fn.kp F1.bd .nil pass0 (pa_cons (pv 1) pa_nil)))
      (pss_cons (ps_asg (pv 0) (pg_seq rfl (pgs_cons (pg_name (i := 2) scLetGo.nd rfl (.inl rfl)) (pgs_cons (pg_name (i := 3) scLetGo.nd rfl (.inl rfl)) (pgs_cons (pg_name (i := 4) scLetGo.nd rfl (.inl rfl)) pgs_nil)))))
      (pss_one (ps_ret (pe_tup (pa_cons (pv 2) (pa_cons (pv 3) (pa_cons (pe_callTy (T := "tuple") call_tuple_of (by rfl) G.tuple (by decide +kernel) (pa_cons
        (pe_lc (own := [("span", 5)]) (te := tCB (rTupO K) (tCons (tVar 5) tNil)) (tt := tTest (tOp (rI0 fun i j => .bl (decide (j < i))) (tCall (spBehind K) [] E0 (tCons (tVar 5) tNil)) (tVar 1))) (by rfl) scLetGo.nd (pi_seq (pv 4))
          (blkOk_by (own := [("span", 5)]) (N := ["store", "below", "laid", "last", "spans", "span"]) (sc := defScope sLetGo) (by decide +kernel)) (fun _ _ _ _ _ => pg_name (i := 5) scLetGo.nd rfl (.inl rfl))
          (fun _ _ _ _ _ => pts_one (pt_cmpR op_gt (pe_call G2 (hr.mono (by decide)) (by rfl) F2.mg F2.fn.kp F2.bd .nil pass0 (pa_cons (pv 5) pa_nil)) (pv 1) (nomark _)))
          (fun _ _ _ _ _ => pe_callTy (T := "tuple") call_tuple_of (by rfl) G.tuple (by decide +kernel) (pa_cons (pv 5) pa_nil))) pa_nil)) pa_nil))))))), ?_⟩
    obtain ⟨a, e, xs, rfl, ha, he, hw⟩ := hs
    refine ⟨_, rfl, .non, ⟨(b : Int), rfl, by omega, rfl⟩, fun H1 e1 => ?_⟩
    have hw1 := Paired.mapP hw fun _ _ h => h.ex e1
    have hxl : L.length = xs.length := Paired.length hw
    refine ⟨_, rfl, a, _, rfl, (ha.ex e1).e, rfl, _, _, rfl, _, _, rfl, _, _, rfl, rfl, ?_⟩
    refine ⟨_, rfl, _, rfl, .ref e, rfl, e, xs, rfl, (he.ex e1).e, fun J Gd wk hG D hD => ?_⟩
    refine lc_gen wk (fun m H' acc => (∃ z, H' D = some (.lst z)) ∧ Paired (SpT H') (stay (L.take m) b) acc) (by omega) hD (fun m H' xs ys acc h r => ?_) ⟨⟨[], upd_same⟩, .nil⟩ hG ?_ ?_
    · refine ⟨⟨ys, upd_same⟩, Paired.mapP r.2 fun p v ⟨b, h1, h2⟩ => ⟨b, h1, ?_⟩⟩
      rw [upd_ne (fun z => by rw [z, h] at h2; cases h2)]
      exact h2
    · intro m y Ha Hb acc hi ex yy hR Qy Qn hy hn
      obtain ⟨rfl, hx⟩ := yy
      obtain ⟨⟨z, hz⟩, hR⟩ := hR
      obtain ⟨s, hs, hp⟩ := Paired.atR hw1 hx
      have tk : stay (L.take (m + 1)) b = stay (L.take m) b ++ (if (s.f : Int) + s.n > (b : Int) then [s] else []) := by
        unfold stay
        rw [List.take_add_one, hs, List.filter_append]
        congr 1
        show List.filter _ [s] = _
        rw [List.filter_cons]
        by_cases c : (s.f : Int) + s.n > (b : Int)
        · rw [if_pos (decide_eq_true c), if_pos c]; rfl
        · rw [if_neg (by rw [decide_eq_true_eq]; exact c), if_neg c]; rfl
      have px := hp.ex ex
      obtain ⟨q, rfl, hq⟩ := px
      refine ⟨wipe1, _, wipe_at (by show 5 < 6; decide), s, .ref q, rfl, ⟨q, rfl, hq.e⟩, fun H3 e3 => ⟨_, rfl, _, _, rfl, rfl, _, rfl, ite2 (fun c => ?_) fun c => ?_⟩⟩
      · have c' := of_decide_eq_true c
        refine ⟨.ref q, wipe_at (by show 5 < 6; decide), tup_of (hq.ex e3) fun r H4 e4 h4 => hy _ _ (e3.trans e4) ?_⟩
        rw [tk, if_pos c']
        exact ⟨⟨z, (e3.trans e4) _ _ hz⟩, Paired.app (Paired.mapP hR fun _ _ h => h.ex (e3.trans e4)) (.cons ⟨r, rfl, h4⟩ .nil)⟩
      · have c' : ¬ (s.f : Int) + s.n > (b : Int) := fun y => c (decide_eq_true y)
        refine hn H3 e3 ?_
        rw [tk, if_neg c', List.append_nil]
        exact ⟨⟨z, e3 _ _ hz⟩, Paired.mapP hR fun _ _ h => h.ex e3⟩
    · intro H4 acc e4 hD4 hR
      rw [← hxl, List.take_length] at hR
      refine ⟨D, acc, rfl, .inl ⟨SqL.of hD4, fun q hq => ?_⟩⟩
      have e5 := Ex.new hq (o := .tup acc)
      refine ⟨by show 3 ≤ sizeLine; decide, fun r hr => ?_⟩
      have e6 := Ex.new hr (o := .tup [V.int (l : Int), nonV la, .ref q])
      exact kk _ _ (e1.trans (e4.trans (e5.trans e6))) ⟨r, q, acc, rfl, upd_same, e6 _ _ upd_same, Paired.mapP hR.2 fun _ _ h => h.ex (e5.trans e6)⟩
end
end K13
set_option Elab.async false
set_option linter.all false
set_option maxRecDepth 100000
set_option maxHeartbeats 4000000
namespace K13
open PySem PySem.Spec PyProof.Rows L2 GxR Pu Evl
theorem scSpanWith : FnScope ["store", "row", "laid", "_", "spans", "span"] ["store", "row"] (defScope sSpanWith) := ⟨rfl, rfl, rfl, by decide +kernel, rfl, by decide +kernel, by decide +kernel⟩
def hasR (r : Nat) (s : S5) : Bool := decide ((s.f : Int) ≤ (r : Int)) && decide ((r : Int) < (s.f : Int) + s.n)
section
variable {P : Program} {w : World} {K : PySem.W.Frag} {mg : Str → Option Value} {base : Heap} {σ : L2.St} {H H' : Hp}
variable {fBe fNum fInt : Addr} {dBe dNum dInt : FuncData}
def ResO (H : Hp) (o : Option S5) (v : V) : Prop := match o with
  | none => v = .non
  | some s => SpT H s v
def spSpanWith : Sp := fun vs H Q _ => ∃ (l : Nat) (la : Option Nat) (L : List S5) (v : V) (r : Nat), vs = [v, .int (r : Int)] ∧ StH H l la L v ∧ L.length ≤ 2000 ∧ r < l ∧ ∀ u H', Ex H H' → ResO H' (L.find? (hasR r)) u → Q u H'
theorem ok_span_with {f : Addr} {fd : FuncData} (M : L2.Mod K mg base) (G : Mg mg) (F : Fun K "span_with" "span_with" sSpanWith f fd) (F1 : Fns K mg "is_number" ["value"] sIsNumber fNum dNum) (F3 : Fns K mg "is_integer" ["value"] sIsInteger fInt dInt) (F2 : Fns K mg "behind" ["span"] sBehind fBe dBe) : FnOk P w K mg base CX0 3 f fd ["store", "row"] spSpanWith := by
  have G1 : FnOk P w K mg base CX0 2 fNum dNum ["value"] (spPure P w base ["value"] pNumber) := (pf_is_number M G F1.fn F3.fn F3.bd F3.mg).ok
  have G2 : FnOk P w K mg base CX0 1 fBe dBe ["span"] (spBehind K) := ok_behind F2.fn
  refine F.ok scSpanWith (fun vs H Q E h => ?_) (fun cdv A outer s H vs Q E hr h => ?_)
  · obtain ⟨l, la, L, v, r, rfl, _⟩ := h
    rfl
  · obtain ⟨l, la, L, v, r, rfl, hs, hl, hrl, kk⟩ := h
    refine ⟨_, pss_cons (ps_asg (pv 0) (pg_seq rfl (pgs_cons (pg_name (i := 2) scSpanWith.nd rfl (.inl rfl)) (pgs_cons (pg_name (i := 3) scSpanWith.nd rfl (.inl rfl)) (pgs_cons (pg_name (i := 4) scSpanWith.nd rfl (.inl rfl)) pgs_nil)))))
      (pss_cons (ps_if (PW.pt (pw_or (pt_not (pt_val (pe_call G1 hr (by rfl) F1.mg F1.fn.kp F1.bd .nil pass0 (pa_cons (pv 1) pa_nil)))) (pw_or1 (pt_cmpR op_ge (pv 1) (pv 2) (nomark _))))) pss_never pss_nil)
      (pss_cons (ps_for PassesOwn.never rfl (pi_seq (pv 4)) (pg_name (i := 5) scSpanWith.nd rfl (.inl rfl)) (pss_one (ps_if (pt_chain op_le op_lt (pe_ix ix_seq (pv 5) pe_int (fun _ _ => rfl)) (pv 1) (pe_call G2 (hr.mono (by decide)) (by rfl) F2.mg F2.fn.kp F2.bd .nil pass0 (pa_cons (pv 5) pa_nil)))
          (pss_one (ps_ret (pe_callTy (T := "tuple") call_tuple_of (by rfl) G.tuple (by decide +kernel) (pa_cons (pv 5) pa_nil)))) pss_nil)))
      (pss_one (ps_ret pe_non)))), ?_⟩
    obtain ⟨a, e, xs, rfl, ha, he, hw⟩ := hs
    have hxl : L.length = xs.length := Paired.length hw
    refine ⟨_, rfl, a, _, rfl, ha.e, rfl, _, _, rfl, _, _, rfl, _, _, rfl, rfl, ?_⟩
    have e0 : Ev (tCall (spPure P w base ["value"] pNumber) [] E0 (tCons (tVar 1) tNil)) ([some (.ref a), some (.int (r : Int)), some (.int (l : Int)), some (nonV la), some (.ref e), none] : L2.St) H (.bl true) := ev_call (ea_cons (ev_var rfl) ea_nil) (spPure.use rfl fun H1 _ h _ _ => ⟨_, _, rfl, .int _, by rw [show isNum (.int (r : Int)) = true from decide_eq_true (show (r : Int) ≥ 0 by omega)]⟩)
    refine e0 H (Ex.refl H) _ fun H1 e1 => ⟨true, rfl, ite2 (fun z => nomatch z) fun _ => ?_⟩
    refine ⟨_, rfl, _, rfl, _, _, rfl, rfl, _, rfl, ite2 (fun z => absurd (of_decide_eq_true z) (by omega)) fun _ => ?_⟩
    have hw1 := Paired.mapP hw fun _ _ h => h.ex e1
    refine ⟨.ref e, rfl, e, xs, rfl, (he.ex e1).e, fun J Gd wk hG => for_it wk (fun i σ' H' => ∃ y5, σ' = [some (.ref a), some (.int (r : Int)), some (.int (l : Int)), some (nonV la), some (.ref e), y5] ∧ Ex H1 H' ∧ (L.take i).find? (hasR r) = none) ⟨none, rfl, Ex.refl H1, rfl⟩ (fun i σ' H' _ p => ?_) ?_ ?_⟩
    · obtain ⟨_, _, ex, _⟩ := p
      exact hG H' ex
    · intro i x σ' Ha Hb hi hPv hy
      obtain ⟨y5, rfl, ex, hf⟩ := hPv
      obtain ⟨rfl, hx⟩ := hy
      obtain ⟨s, hs, hp⟩ := Paired.atR hw1 hx
      obtain ⟨q, rfl, hq⟩ := hp.ex ex
      have tk : L.take (i + 1) = L.take i ++ [s] := by rw [List.take_add_one, hs]; rfl
      have miss : hasR r s = false → (L.take (i + 1)).find? (hasR r) = none := fun z => by
        rw [tk, List.find?_append, hf]
        show [s].find? (hasR r) = none
        rw [List.find?_cons, z]
        rfl
      have hit : hasR r s = true → L.find? (hasR r) = some s := fun z => by
        have il := (List.getElem?_eq_some_iff.mp hs).1
        have eL : L = L.take i ++ s :: L.drop (i + 1) := by
          have h9 := List.drop_eq_getElem_cons il
          rw [(List.getElem?_eq_some_iff.mp hs).2] at h9
          rw [← h9, List.take_append_drop]
        rw [eL, List.find?_append]
        have h8 : (L.take i).find? (hasR r) = none := hf
        rw [h8]
        show (s :: L.drop (i + 1)).find? (hasR r) = some s
        rw [List.find?_cons, z]
      refine ⟨_, rfl, rd_ix (j := 0) ⟨q, rfl, hq.e⟩ rfl ⟨_, rfl, (s.f : Int), (r : Int), rfl, rfl, _, rfl, ite2 (fun c => ?_) fun c => ?_⟩⟩
      · refine ⟨_, rfl, s, .ref q, rfl, ⟨q, rfl, hq.e⟩, fun H4 e4 => ⟨(r : Int), (s.f : Int) + s.n, rfl, rfl, _, rfl, ite2 (fun c2 => ?_) fun c2 => ?_⟩⟩
        · have hh : hasR r s = true := by unfold hasR; rw [c, c2]; rfl
          exact ⟨.ref q, rfl, tup_of (hq.ex e4) fun r4 H5 e5 h5 => kk _ _ (e1.trans (ex.trans (e4.trans e5))) (by rw [hit hh]; exact ⟨r4, rfl, h5⟩)⟩
        · have hh : hasR r s = false := by unfold hasR; rw [Bool.not_eq_true] at c2; rw [c2, Bool.and_false]
          exact ⟨_, rfl, ex.trans e4, miss hh⟩
      · have hh : hasR r s = false := by unfold hasR; rw [Bool.not_eq_true] at c; rw [c, Bool.false_and]
        exact ⟨_, rfl, by first | exact ⟨_, rfl, ex, miss hh⟩ | exact ⟨ex, miss hh⟩⟩
    · intro σ' H' p1
      obtain ⟨y5, rfl, ex, hf⟩ := p1
      rw [← hxl, List.take_length] at hf
      exact kk _ _ (e1.trans ex) (by rw [hf]; rfl)
end
end K13
set_option Elab.async false
set_option linter.all false
set_option maxRecDepth 100000
set_option maxHeartbeats 4000000
namespace K13
open PySem PySem.Spec PyProof.Rows L2 GxR Pu Evl
theorem scLay : FnScope ["store", "keep", "stamp", "value", "laid", "last", "spans", "grown", "span"] ["store", "keep", "stamp", "value"] (defScope sLay) := ⟨rfl, rfl, rfl, by decide +kernel, rfl, by decide +kernel, by decide +kernel⟩
/-- what settled makes of spans: L' of L, told by Rl -/
def spSettled (Rl : Nat → List S5 → List S5 → Prop) : Sp := fun vs H Q _ => ∃ (k : Nat) (e : Addr) (L L' : List S5) (xs : List V), vs = [.ref e, .int (k : Int)] ∧ H e = some (.lst xs) ∧ Paired (SpT H) L xs ∧ Rl k L L' ∧
  ∀ q ys H', H q = none → Ex H H' → H' q = some (.tup ys) → Paired (SpT H') L' ys → Q (.ref q) H'
def rowS (l : Nat) (x : Int) : S5 := ⟨l, 1, x, x, x⟩
def spLay (Rl : Nat → List S5 → List S5 → Prop) : Sp := fun vs H Q _ => ∃ (l : Nat) (la : Option Nat) (L L' : List S5) (v : V) (k st : Nat) (x : Int), vs = [v, .int (k : Int), .int (st : Int), .int x] ∧ StH H l la L v ∧ L.length ≤ 2000 ∧ 2 ≤ k ∧ k ≤ 8 ∧ (∀ n, la = some n → n < st) ∧
  -1000000 ≤ x ∧ x ≤ 1000000 ∧ Rl k (L ++ [rowS l x]) L' ∧ ∀ u H', Ex H H' → StT H' (l + 1) (some st) L' u → Q u H'
section
variable {P : Program} {w : World} {K : PySem.W.Frag} {mg : Str → Option Value} {base : Heap} {σ : L2.St} {H H' : Hp} {Rl : Nat → List S5 → List S5 → Prop}
variable {fNK fNum fInt fRd fRS fSe : Addr} {dNK dNum dInt dRd dRS dSe : FuncData}
theorem ok_lay {f : Addr} {fd : FuncData} (M : L2.Mod K mg base) (G : Mg mg) (V' : Mv mg) (F : Fun K "lay" "lay" sLay f fd) (F1 : Fns K mg "need_keep" ["keep"] sNeedKeep fNK dNK) (G1 : FnOk P w K mg base CX0 3 fNK dNK ["keep"] (spV pKeep)) (F2 : Fns K mg "is_number" ["value"] sIsNumber fNum dNum) (F3 : Fns K mg "is_integer" ["value"] sIsInteger fInt dInt)
    (F4 : Fns K mg "is_reading" ["value"] sIsReading fRd dRd) (F5 : Fns K mg "row_span" ["row", "value"] sRowSpan fRS dRS) (F6 : Fns K mg "settled" ["spans", "keep"] sSettled fSe dSe) (G6 : FnOk P w K mg base CX0 6 fSe dSe ["spans", "keep"] (spSettled Rl)) : FnOk P w K mg base CX0 7 f fd ["store", "keep", "stamp", "value"] (spLay Rl) := by
  have G2 : FnOk P w K mg base CX0 2 fNum dNum ["value"] (spPure P w base ["value"] pNumber) := (pf_is_number M G F2.fn F3.fn F3.bd F3.mg).ok
  have G4 : FnOk P w K mg base CX0 2 fRd dRd ["value"] (spPure P w base ["value"] pReading) := (pf_is_reading M G V' F4.fn F3).ok
  have G5 : FnOk P w K mg base CX0 1 fRS dRS ["row", "value"] spRowSpan := ok_row_span F5.fn
  refine F.ok scLay (fun vs H Q E h => ?_) (fun cdv A outer s H vs Q E hr h => ?_)
  · obtain ⟨l, la, L, L', v, k, st, x, rfl, _⟩ := h
    rfl
  · obtain ⟨l, la, L, L', v, k, st, x, rfl, hs, hl, h2, h8, hla, x1, x2, pre, kk⟩ := h
    refine ⟨_, pss_cons (ps_expr (pe_call G1 (hr.mono (by decide)) (by rfl) F1.mg F1.fn.kp F1.bd .nil pass0 (pa_cons (pv 1) pa_nil)))
      (pss_cons (ps_asg (pv 0) (pg_seq rfl (pgs_cons (pg_name (i := 4) scLay.nd rfl (.inl rfl)) (pgs_cons (pg_name (i := 5) scLay.nd rfl (.inl rfl)) (pgs_cons (pg_name (i := 6) scLay.nd rfl (.inl rfl)) pgs_nil)))))
      (pss_cons (ps_if (PW.pt (pw_or (pt_not (pt_val (pe_call G2 (hr.mono (by decide)) (by rfl) F2.mg F2.fn.kp F2.bd .nil pass0 (pa_cons (pv 2) pa_nil)))) (pw_or1 (PW.pt (pw_and (pt_cmp (pc_notN (pv 5))) (pw_and1 (pt_cmpR op_le (pv 2) (pv 5) (nomark _)))))))) pss_never pss_nil)
      (pss_cons (ps_if (pt_not (pt_val (pe_call G4 (hr.mono (by decide)) (by rfl) F4.mg F4.fn.kp F4.bd .nil pass0 (pa_cons (pv 3) pa_nil)))) pss_never pss_nil)
      (pss_cons (ps_set (i := 7) scLay.nd rfl (.inl rfl) (pe_op op_cat (pe_lc (own := [("span", 8)]) (te := tCB (rTupO K) (tCons (tVar 8) tNil)) (by rfl) scLay.nd (pi_seq (pv 6))
          (blkOk_by (own := [("span", 8)]) (N := ["store", "keep", "stamp", "value", "laid", "last", "spans", "grown", "span"]) (sc := defScope sLay) (by decide +kernel)) (fun _ _ _ _ _ => pg_name (i := 8) scLay.nd rfl (.inl rfl)) (fun _ _ _ _ _ => pts_nil)
          (fun _ _ _ _ _ => pe_callTy (T := "tuple") call_tuple_of (by rfl) G.tuple (by decide +kernel) (pa_cons (pv 8) pa_nil)))
        (pe_lst (pa_cons (pe_call G5 (hr.mono (by decide)) (by rfl) F5.mg F5.fn.kp F5.bd .nil pass0 (pa_cons (pv 4) (pa_cons (pv 3) pa_nil))) pa_nil))))
      (pss_one (ps_ret (pe_tup (pa_cons (pe_op op_add (pv 4) pe_int) (pa_cons (pv 2) (pa_cons (pe_call G6 hr (by rfl) F6.mg F6.fn.kp F6.bd .nil pass0 (pa_cons (pv 7) (pa_cons (pv 1) pa_nil))) pa_nil)))))))))), ?_⟩
    obtain ⟨a, e, xs, rfl, ha, he, hw⟩ := hs
    have hxl : L.length = xs.length := Paired.length hw
    refine ⟨_, rfl, .non, ⟨(k : Int), rfl, by omega, by omega, rfl⟩, fun H1 e1 => ?_⟩
    refine ⟨_, rfl, a, _, rfl, (ha.ex e1).e, rfl, _, _, rfl, _, _, rfl, _, _, rfl, rfl, ?_⟩
    have e0 : ∀ H2, Ev (tCall (spPure P w base ["value"] pNumber) [] E0 (tCons (tVar 2) tNil)) ([some (.ref a), some (.int (k : Int)), some (.int (st : Int)), some (.int x), some (.int (l : Int)), some (nonV la), some (.ref e), none, none] : L2.St) H2 (.bl true) := fun H2 => ev_call (ea_cons (ev_var rfl) ea_nil) (spPure.use rfl fun H1 _ h _ _ => ⟨_, _, rfl, .int _, by rw [show isNum (.int (st : Int)) = true from decide_eq_true (show (st : Int) ≥ 0 by omega)]⟩)
    have e00 : ∀ H2, Ev (tCall (spPure P w base ["value"] pReading) [] E0 (tCons (tVar 3) tNil)) ([some (.ref a), some (.int (k : Int)), some (.int (st : Int)), some (.int x), some (.int (l : Int)), some (nonV la), some (.ref e), none, none] : L2.St) H2 (.bl true) := fun H2 => ev_call (ea_cons (ev_var rfl) ea_nil) (spPure.use rfl fun H1 _ h _ _ => ⟨x, rfl, by rw [decide_eq_true x1, decide_eq_true x2]; rfl⟩)
    dsimp only
    refine q_when (b := false) ?_ (fun z => nomatch z) fun _ H2 e2 => ?_
    · intro H3 e3 Q3 q3
      refine e0 H3 H3 (Ex.refl H3) _ fun H4 e4 => ⟨true, rfl, ite2 (fun z => nomatch z) fun _ => ?_⟩
      cases la with
      | none => exact ⟨_, rfl, _, rfl, ite2 (fun z => nomatch z) fun _ => q3 H4 e4⟩
      | some n =>
        refine ⟨_, rfl, _, rfl, ite2 (fun _ => ⟨_, rfl, _, rfl, _, _, rfl, rfl, _, rfl, ?_⟩) fun z => absurd rfl z⟩
        have := hla n rfl
        rw [decide_eq_false (by omega)]
        exact q3 H4 e4
    refine e00 H2 H2 (Ex.refl H2) _ fun H3 e3 => ⟨true, rfl, ite2 (fun z => nomatch z) fun _ => ?_⟩
    have e13 := e1.trans (e2.trans e3)
    have hw1 := Paired.mapP hw fun _ _ h => h.ex e13
    refine ⟨.ref e, rfl, e, xs, rfl, (he.ex e13).e, fun J Gd wk hG D hD => ?_⟩
    refine lc_gen wk (fun m H' acc => (∃ z, H' D = some (.lst z)) ∧ Paired (SpT H') (L.take m) acc) (by omega) hD (fun m H' xs ys acc h r => ?_) ⟨⟨[], upd_same⟩, .nil⟩ hG ?_ ?_
    · refine ⟨⟨ys, upd_same⟩, Paired.mapP r.2 fun p v ⟨b, h1, h2⟩ => ⟨b, h1, ?_⟩⟩
      rw [upd_ne (fun z => by rw [z, h] at h2; cases h2)]
      exact h2
    · intro m y Ha Hb acc hi ex yy hR Qy Qn hy hn
      obtain ⟨rfl, hx⟩ := yy
      obtain ⟨⟨z, hz⟩, hR⟩ := hR
      obtain ⟨s, hs, hp⟩ := Paired.atR hw1 hx
      have tk : L.take (m + 1) = L.take m ++ [s] := by rw [List.take_add_one, hs]; rfl
      obtain ⟨q, rfl, hq⟩ := hp.ex ex
      refine ⟨wipe1, yes_then ⟨.ref q, wipe_at (by show 8 < 9; decide), tup_of hq fun r H4 e4 h4 => hy _ _ e4 ?_⟩⟩
      rw [tk]
      exact ⟨⟨z, e4 _ _ hz⟩, Paired.app (Paired.mapP hR fun _ _ h => h.ex e4) (.cons ⟨r, rfl, h4⟩ .nil)⟩
    · intro H4 acc e4 hD4 hR
      rw [← hxl, List.take_length] at hR
      have al : L.length = acc.length := Paired.length hR.2
      refine ⟨_, rfl, _, rfl, l, x, rfl, fun q H5 hq e5 h5 => ⟨by show 1 ≤ sizeLine; decide, fun r hr => ?_⟩⟩
      have e6 := Ex.new hr (o := .lst [V.ref q])
      have e46 := e5.trans e6
      refine ⟨D, r, acc, [.ref q], rfl, rfl, e46 _ _ hD4, upd_same, ?_, fun g hg => ?_⟩
      · show acc.length + 1 ≤ sizeLine
        exact Nat.le_trans (show acc.length + 1 ≤ 2001 by omega) (by decide)
      have e7 := Ex.new hg (o := .lst (acc ++ [V.ref q]))
      have e47 := e46.trans e7
      refine ⟨_, rfl, _, _, rfl, rfl, _, rfl, _, rfl, _, rfl, k, g, L ++ [rowS l x], L', acc ++ [.ref q], rfl, upd_same, ?_, pre, fun q2 ys H8 hq2 e8 h8 p8 => ⟨by show 3 ≤ sizeLine; decide, fun r2 hr2 => ?_⟩⟩
      · exact Paired.app (Paired.mapP hR.2 fun _ _ h => h.ex e47) (.cons ⟨q, rfl, (e6.trans e7) _ _ h5⟩ .nil)
      · have e9 := Ex.new hr2 (o := .tup [V.int ((l : Int) + 1), .int (st : Int), .ref q2])
        exact kk _ _ (e13.trans (e4.trans (e47.trans (e8.trans e9)))) ⟨r2, q2, ys, rfl, upd_same, e9 _ _ h8, Paired.mapP p8 fun _ _ h => h.ex e9⟩
end
end K13
set_option Elab.async false
set_option linter.all false
set_option maxRecDepth 100000
set_option maxHeartbeats 4000000
/-! laying a row by joining the two eldest of a size: the shape's counts -/
namespace Sh
/-- one more of the least size -/
def bump : List Nat → List Nat
  | [] => [1]
  | c :: cs => (c + 1) :: cs
/-- counts when a row more was laid -/
def inc (k : Nat) : List Nat → List Nat
  | [] => [1]
  | c :: cs => if c < k then (c + 1) :: cs else (c - 1) :: inc k cs
theorem inc_tot {k : Nat} : ∀ (cs : List Nat) (s : Nat), (∀ c ∈ cs, 1 ≤ c) → tot (inc k cs) s = tot cs s + s
  | [], s, _ => by show 0 + s * 1 = 0 + s; omega
  | c :: cs, s, h => by
    have h1 := h c (List.mem_cons_self ..)
    unfold inc
    by_cases z : c < k
    · rw [if_pos z]
      show tot cs (2 * s) + s * (c + 1) = tot cs (2 * s) + s * c + s
      rw [Nat.mul_add, Nat.mul_one]
      omega
    · rw [if_neg z]
      show tot (inc k cs) (2 * s) + s * (c - 1) = tot cs (2 * s) + s * c + s
      rw [inc_tot cs (2 * s) fun x hx => h x (List.mem_cons_of_mem _ hx)]
      obtain ⟨d, rfl⟩ : ∃ d, c = d + 1 := ⟨c - 1, by omega⟩
      rw [Nat.add_sub_cancel, Nat.mul_add, Nat.mul_one]
      omega
theorem inc_cons (k : Nat) : ∀ cs : List Nat, ∃ d ds, inc k cs = d :: ds
  | [] => ⟨1, [], rfl⟩
  | c :: cs => by
    unfold inc
    by_cases z : c < k
    · exact ⟨_, _, if_pos z⟩
    · exact ⟨_, _, if_neg z⟩
theorem inc_val {k : Nat} (hk : 2 ≤ k) {cs : List Nat} (h : Val k cs) : Val k (inc k cs) := by
  induction h with
  | @one c h1 h2 =>
    unfold inc
    by_cases z : c < k
    · rw [if_pos z]
      exact .one (by omega) (by omega)
    · rw [if_neg z]
      exact .more (.inr (by omega)) (.one (by omega) (by omega))
  | @more c d cs h r ih =>
    unfold inc
    by_cases z : c < k
    · rw [if_pos z]
      exact .more (.inl (by omega)) r
    · rw [if_neg z]
      obtain ⟨d', ds', e⟩ := inc_cons k (d :: cs)
      rw [e] at ih ⊢
      exact .more (.inr (by omega)) ih
theorem val_all {k : Nat} (hk : 2 ≤ k) {cs : List Nat} (h : Val k cs) : ∀ c ∈ cs, 1 ≤ c ∧ c ≤ k := by
  induction h with
  | one h1 h2 =>
    intro c hc
    rw [List.mem_singleton.mp hc]
    exact ⟨h1, h2⟩
  | more h r ih =>
    intro c hc
    rcases List.mem_cons.mp hc with z | z
    · rw [z]
      omega
    · exact ih c z
/-- a row more: the counts of one row more -/
theorem inc_counts {k : Nat} (hk : 2 ≤ k) (m : Nat) : inc k (counts k m) = counts k (m + 1) := by
  by_cases h : 0 < m
  · have v := counts_val hk m h
    have t : tot (inc k (counts k m)) 1 = m + 1 := by
      rw [inc_tot _ 1 fun c hc => (val_all hk v c hc).1, counts_tot hk]
    rw [← t, uniq hk (inc_val hk v)]
  · have z : m = 0 := by omega
    subst z
    rw [counts_zero]
    have v : Val k [1] := .one (Nat.le_refl 1) (by omega)
    have u := uniq hk v
    have t : tot [1] 1 = 0 + 1 := rfl
    rw [t] at u
    exact u.symm
/-- the eldest two of a size, joined -/
def merge (i : Nat) (L : List (Nat × Nat)) : List (Nat × Nat) := match L.drop i with
  | a :: b :: r => L.take i ++ (a.1, a.2 + b.2) :: r
  | _ => L
theorem sh_bump : ∀ (cs : List Nat) (f s : Nat), sh f (bump cs) s = sh f cs s ++ [(f + tot cs s, s)]
  | [], f, s => by
    show [] ++ (List.range 1).map (fun j => (f + 0 + s * j, s)) = [] ++ [(f + 0, s)]
    rfl
  | c :: cs, f, s => by
    show sh f cs (2 * s) ++ (List.range (c + 1)).map _ = (sh f cs (2 * s) ++ (List.range c).map _) ++ [(f + (tot cs (2 * s) + s * c), s)]
    rw [List.range_succ, List.map_append, List.append_assoc]
    congr 2
    show [(f + tot cs (2 * s) + s * c, s)] = _
    rw [Nat.add_assoc]
theorem tot_bump : ∀ (cs : List Nat) (s : Nat), tot (bump cs) s = tot cs s + s
  | [], s => by show 0 + s * 1 = 0 + s; omega
  | c :: cs, s => by
    show tot cs (2 * s) + s * (c + 1) = tot cs (2 * s) + s * c + s
    rw [Nat.mul_add, Nat.mul_one]
    omega
theorem merge_at {A : List (Nat × Nat)} {a b : Nat × Nat} {r : List (Nat × Nat)} : merge A.length (A ++ a :: b :: r) = A ++ (a.1, a.2 + b.2) :: r := by
  unfold merge
  rw [List.drop_left, List.take_left]
theorem range2 {α : Type} (g : Nat → α) (c : Nat) : (List.range (c + 2)).map g = g 0 :: g 1 :: (List.range c).map fun j => g (j + 2) := by
  rw [List.range_succ_eq_map, List.map_cons, List.range_succ_eq_map, List.map_cons, List.map_cons, List.map_map, List.map_map]
  rfl
/-- joining the eldest two of the least size -/
theorem merge_sh (c : Nat) (cs : List Nat) (f s : Nat) : merge (sh f cs (2 * s)).length (sh f ((c + 2) :: cs) s) = sh f (c :: bump cs) s := by
  have e1 : sh f ((c + 2) :: cs) s = sh f cs (2 * s) ++ (f + tot cs (2 * s), s) :: (f + tot cs (2 * s) + s, s) :: (List.range c).map fun j => (f + tot cs (2 * s) + s * (j + 2), s) := by
    show sh f cs (2 * s) ++ (List.range (c + 2)).map _ = _
    rw [range2]
    show _ ++ (f + tot cs (2 * s) + s * 0, s) :: (f + tot cs (2 * s) + s * 1, s) :: _ = _
    rw [Nat.mul_zero, Nat.mul_one, Nat.add_zero]
  rw [e1, merge_at]
  show _ = sh f (bump cs) (2 * s) ++ (List.range c).map _
  rw [sh_bump, tot_bump, List.append_assoc]
  congr 1
  show (f + tot cs (2 * s), s + s) :: _ = (f + tot cs (2 * s), 2 * s) :: _
  rw [Nat.two_mul]
  congr 1
  refine List.map_congr_left fun j _ => ?_
  show (f + tot cs (s + s) + s * (j + 2), s) = (f + (tot cs (s + s) + (s + s)) + s * j, s)
  congr 1
  rw [Nat.mul_add]
  omega
end Sh
set_option Elab.async false
set_option linter.all false
set_option maxRecDepth 100000
set_option maxHeartbeats 4000000
/-! values of rows: sum, least, greatest of stretches -/
namespace Sv
open Sh
def lmin : List Int → Int
  | [] => 0
  | [x] => x
  | x :: y :: r => min x (lmin (y :: r))
def lmax : List Int → Int
  | [] => 0
  | [x] => x
  | x :: y :: r => max x (lmax (y :: r))
theorem lmin_spec : ∀ {xs : List Int}, xs ≠ [] → lmin xs ∈ xs ∧ ∀ y ∈ xs, lmin xs ≤ y
  | [], h => absurd rfl h
  | [x], _ => ⟨List.mem_singleton.mpr rfl, fun y hy => by rw [List.mem_singleton.mp hy]; exact Int.le_refl _⟩
  | x :: y :: r, _ => by
    have ih := lmin_spec (xs := y :: r) (List.cons_ne_nil _ _)
    have e : lmin (x :: y :: r) = min x (lmin (y :: r)) := rfl
    refine ⟨?_, fun z hz => ?_⟩
    · by_cases c : x ≤ lmin (y :: r)
      · rw [e, show min x (lmin (y :: r)) = x by omega]; exact List.mem_cons_self
      · rw [e, show min x (lmin (y :: r)) = lmin (y :: r) by omega]; exact List.mem_cons_of_mem _ ih.1
    · rcases List.mem_cons.mp hz with q | q
      · rw [e, q]; omega
      · have := ih.2 z q
        rw [e]; omega
theorem lmax_spec : ∀ {xs : List Int}, xs ≠ [] → lmax xs ∈ xs ∧ ∀ y ∈ xs, y ≤ lmax xs
  | [], h => absurd rfl h
  | [x], _ => ⟨List.mem_singleton.mpr rfl, fun y hy => by rw [List.mem_singleton.mp hy]; exact Int.le_refl _⟩
  | x :: y :: r, _ => by
    have ih := lmax_spec (xs := y :: r) (List.cons_ne_nil _ _)
    have e : lmax (x :: y :: r) = max x (lmax (y :: r)) := rfl
    refine ⟨?_, fun z hz => ?_⟩
    · by_cases c : lmax (y :: r) ≤ x
      · rw [e, show max x (lmax (y :: r)) = x by omega]; exact List.mem_cons_self
      · rw [e, show max x (lmax (y :: r)) = lmax (y :: r) by omega]; exact List.mem_cons_of_mem _ ih.1
    · rcases List.mem_cons.mp hz with q | q
      · rw [e, q]; omega
      · have := ih.2 z q
        rw [e]; omega
theorem lmin_uniq {xs : List Int} {m : Int} (h : m ∈ xs) (k : ∀ y ∈ xs, m ≤ y) : m = lmin xs := by
  have s := lmin_spec (xs := xs) (fun e => by rw [e] at h; cases h)
  have a := k _ s.1
  have b := s.2 _ h
  omega
theorem lmax_uniq {xs : List Int} {m : Int} (h : m ∈ xs) (k : ∀ y ∈ xs, y ≤ m) : m = lmax xs := by
  have s := lmax_spec (xs := xs) (fun e => by rw [e] at h; cases h)
  have a := k _ s.1
  have b := s.2 _ h
  omega
theorem lmin_app {a b : List Int} (ha : a ≠ []) (hb : b ≠ []) : lmin (a ++ b) = min (lmin a) (lmin b) := by
  have sa := lmin_spec ha
  have sb := lmin_spec hb
  refine (lmin_uniq ?_ fun y hy => ?_).symm
  · by_cases c : lmin a ≤ lmin b
    · rw [show min (lmin a) (lmin b) = lmin a by omega]; exact List.mem_append_left _ sa.1
    · rw [show min (lmin a) (lmin b) = lmin b by omega]; exact List.mem_append_right _ sb.1
  · rcases List.mem_append.mp hy with q | q
    · have := sa.2 y q; omega
    · have := sb.2 y q; omega
theorem lmax_app {a b : List Int} (ha : a ≠ []) (hb : b ≠ []) : lmax (a ++ b) = max (lmax a) (lmax b) := by
  have sa := lmax_spec ha
  have sb := lmax_spec hb
  refine (lmax_uniq ?_ fun y hy => ?_).symm
  · by_cases c : lmax b ≤ lmax a
    · rw [show max (lmax a) (lmax b) = lmax a by omega]; exact List.mem_append_left _ sa.1
    · rw [show max (lmax a) (lmax b) = lmax b by omega]; exact List.mem_append_right _ sb.1
  · rcases List.mem_append.mp hy with q | q
    · have := sa.2 y q; omega
    · have := sb.2 y q; omega
theorem sum_ge {lo : Int} : ∀ {xs : List Int}, (∀ y ∈ xs, lo ≤ y) → (xs.length : Int) * lo ≤ xs.sum
  | [], _ => by simp
  | x :: xs, h => by
    have ih := sum_ge (xs := xs) fun y hy => h y (List.mem_cons_of_mem _ hy)
    have h0 := h x List.mem_cons_self
    rw [List.sum_cons, List.length_cons]
    have e : ((xs.length + 1 : Nat) : Int) * lo = (xs.length : Int) * lo + lo := by rw [show ((xs.length + 1 : Nat) : Int) = (xs.length : Int) + 1 by omega, Int.add_mul, Int.one_mul]
    omega
theorem sum_le {hi : Int} : ∀ {xs : List Int}, (∀ y ∈ xs, y ≤ hi) → xs.sum ≤ (xs.length : Int) * hi
  | [], _ => by simp
  | x :: xs, h => by
    have ih := sum_le (xs := xs) fun y hy => h y (List.mem_cons_of_mem _ hy)
    have h0 := h x List.mem_cons_self
    rw [List.sum_cons, List.length_cons]
    have e : ((xs.length + 1 : Nat) : Int) * hi = (xs.length : Int) * hi + hi := by rw [show ((xs.length + 1 : Nat) : Int) = (xs.length : Int) + 1 by omega, Int.add_mul, Int.one_mul]
    omega
theorem sum_ge1 {lo z : Int} : ∀ {xs : List Int}, (∀ y ∈ xs, lo ≤ y) → z ∈ xs → (xs.length : Int) * lo + (z - lo) ≤ xs.sum
  | [], _, h => nomatch h
  | x :: xs, h, hz => by
    have h0 := h x List.mem_cons_self
    rw [List.sum_cons, List.length_cons]
    have e : ((xs.length + 1 : Nat) : Int) * lo = (xs.length : Int) * lo + lo := by rw [show ((xs.length + 1 : Nat) : Int) = (xs.length : Int) + 1 by omega, Int.add_mul, Int.one_mul]
    rcases List.mem_cons.mp hz with q | q
    · have ih := sum_ge (xs := xs) fun y hy => h y (List.mem_cons_of_mem _ hy)
      omega
    · have ih := sum_ge1 (xs := xs) (fun y hy => h y (List.mem_cons_of_mem _ hy)) q
      omega
theorem sum_le1 {hi z : Int} : ∀ {xs : List Int}, (∀ y ∈ xs, y ≤ hi) → z ∈ xs → xs.sum ≤ (xs.length : Int) * hi - (hi - z)
  | [], _, h => nomatch h
  | x :: xs, h, hz => by
    have h0 := h x List.mem_cons_self
    rw [List.sum_cons, List.length_cons]
    have e : ((xs.length + 1 : Nat) : Int) * hi = (xs.length : Int) * hi + hi := by rw [show ((xs.length + 1 : Nat) : Int) = (xs.length : Int) + 1 by omega, Int.add_mul, Int.one_mul]
    rcases List.mem_cons.mp hz with q | q
    · have ih := sum_le (xs := xs) fun y hy => h y (List.mem_cons_of_mem _ hy)
      omega
    · have ih := sum_le1 (xs := xs) (fun y hy => h y (List.mem_cons_of_mem _ hy)) q
      omega
/-- the values of a stretch -/
def sl (v : List Int) (p : Nat × Nat) : List Int := (v.drop p.1).take p.2
theorem sl_len {v : List Int} {p : Nat × Nat} (h : p.1 + p.2 ≤ v.length) : (sl v p).length = p.2 := by
  unfold sl
  rw [List.length_take, List.length_drop]
  omega
theorem sl_ne {v : List Int} {p : Nat × Nat} (h : p.1 + p.2 ≤ v.length) (h1 : 1 ≤ p.2) : sl v p ≠ [] := fun e => by
  have := sl_len h
  rw [e] at this
  simp at this
  omega
theorem sl_snoc {v : List Int} {p : Nat × Nat} {x : Int} (h : p.1 + p.2 ≤ v.length) : sl (v ++ [x]) p = sl v p := by
  unfold sl
  rw [List.drop_append_of_le_length (by omega), List.take_append_of_le_length (by rw [List.length_drop]; omega)]
theorem sl_last {v : List Int} {x : Int} : sl (v ++ [x]) (v.length, 1) = [x] := by
  unfold sl
  show (List.drop v.length (v ++ [x])).take 1 = [x]
  rw [List.drop_left]
  rfl
theorem sl_two {v : List Int} {a n m : Nat} : sl v (a, n) ++ sl v (a + n, m) = sl v (a, n + m) := by
  unfold sl
  show (v.drop a).take n ++ (v.drop (a + n)).take m = (v.drop a).take (n + m)
  rw [← List.drop_drop, List.take_add]
theorem sl_mem {v : List Int} {p : Nat × Nat} {y : Int} (h : y ∈ sl v p) : y ∈ v := List.mem_of_mem_drop (List.mem_of_mem_take h)
/-- the sizes of shapes are powers of two -/
theorem sh_pow : ∀ (cs : List Nat) (i f : Nat) (p : Nat × Nat), p ∈ sh f cs (2 ^ i) → ∃ j, p.2 = 2 ^ j := by
  intro cs i f p h
  obtain ⟨j, _, e⟩ := size_in cs (2 ^ i) f p h
  exact ⟨i + j, by rw [e, ← Nat.pow_add]⟩
/-- what settling goes through: the level's counts with one more, and what lies behind -/
def lvl (f : Nat) (ds : List Nat) (s : Nat) (low : List (Nat × Nat)) : List (Nat × Nat) := sh f (bump ds) s ++ low
theorem lvl_end {k f s c : Nat} {ds : List Nat} {low : List (Nat × Nat)} (h : c < k) : lvl f (c :: ds) s low = sh f (inc k (c :: ds)) s ++ low := by
  unfold lvl inc
  rw [if_pos h]
  rfl
theorem lvl_end0 {k f s : Nat} {low : List (Nat × Nat)} : lvl f [] s low = sh f (inc k []) s ++ low := rfl
theorem inc_over {k c : Nat} {ds : List Nat} (h : ¬ c < k) : inc k (c :: ds) = (c - 1) :: inc k ds := if_neg h
/-- what a level leaves behind -/
def lows (f c s t : Nat) (low : List (Nat × Nat)) : List (Nat × Nat) := (List.range c).map (fun j => (f + t + s * j, s)) ++ low
theorem lvl_fin {k f s c : Nat} {ds : List Nat} {low : List (Nat × Nat)} (h : ¬ c < k) (h1 : ∀ d ∈ ds, 1 ≤ d) : sh f (inc k (c :: ds)) s ++ low = sh f (inc k ds) (2 * s) ++ lows f (c - 1) s (tot ds (2 * s) + 2 * s) low := by
  unfold lows
  rw [← List.append_assoc]
  congr 1
  rw [inc_over h]
  show sh f (inc k ds) (2 * s) ++ (List.range (c - 1)).map _ = _
  rw [inc_tot ds (2 * s) h1]
theorem lvl_step {f s c : Nat} {ds : List Nat} {low : List (Nat × Nat)} (h : 1 ≤ c) :
    ∃ r, lvl f (c :: ds) s low = sh f ds (2 * s) ++ (f + tot ds (2 * s), s) :: (f + tot ds (2 * s) + s, s) :: r ∧ lvl f ds (2 * s) (lows f (c - 1) s (tot ds (2 * s) + 2 * s) low) = sh f ds (2 * s) ++ (f + tot ds (2 * s), 2 * s) :: r := by
  obtain ⟨d, rfl⟩ : ∃ d, c = d + 1 := ⟨c - 1, by omega⟩
  refine ⟨(List.range d).map (fun j => (f + tot ds (2 * s) + s * (j + 2), s)) ++ low, ?_, ?_⟩
  · unfold lvl
    show (sh f ds (2 * s) ++ (List.range (d + 2)).map (fun j => (f + tot ds (2 * s) + s * j, s))) ++ low = _
    rw [range2, List.append_assoc]
    show sh f ds (2 * s) ++ ((f + tot ds (2 * s) + s * 0, s) :: (f + tot ds (2 * s) + s * 1, s) :: (List.range d).map (fun j => (f + tot ds (2 * s) + s * (j + 2), s)) ++ low) = _
    rw [Nat.mul_zero, Nat.mul_one, Nat.add_zero]
    rfl
  · unfold lvl lows
    rw [sh_bump, Nat.add_sub_cancel, List.append_assoc]
    congr 1
    show (f + tot ds (2 * s), 2 * s) :: ((List.range d).map _ ++ low) = _
    congr 2
    refine List.map_congr_left fun j _ => ?_
    show (f + (tot ds (2 * s) + 2 * s) + s * j, s) = (f + tot ds (2 * s) + s * (j + 2), s)
    congr 1
    rw [Nat.mul_add]
    omega
/-- places of the spans of a size -/
def idx (s : Nat) : Nat → List (Nat × Nat) → List Nat
  | _, [] => []
  | o, p :: r => if p.2 = s then o :: idx s (o + 1) r else idx s (o + 1) r
theorem idx_app (s : Nat) : ∀ (x y : List (Nat × Nat)) (o : Nat), idx s o (x ++ y) = idx s o x ++ idx s (o + x.length) y
  | [], y, o => rfl
  | p :: x, y, o => by
    have ih := idx_app s x y (o + 1)
    have e : o + 1 + x.length = o + (p :: x).length := by rw [List.length_cons]; omega
    rw [e] at ih
    show (if p.2 = s then o :: idx s (o + 1) (x ++ y) else idx s (o + 1) (x ++ y)) = (if p.2 = s then o :: idx s (o + 1) x else idx s (o + 1) x) ++ _
    by_cases z : p.2 = s
    · rw [if_pos z, if_pos z, ih]; rfl
    · rw [if_neg z, if_neg z, ih]
theorem idx_none (s : Nat) : ∀ (x : List (Nat × Nat)) (o : Nat), (∀ p ∈ x, p.2 ≠ s) → idx s o x = []
  | [], _, _ => rfl
  | p :: x, o, h => by
    show (if p.2 = s then o :: idx s (o + 1) x else idx s (o + 1) x) = []
    rw [if_neg (h p List.mem_cons_self)]
    exact idx_none s x (o + 1) fun q hq => h q (List.mem_cons_of_mem _ hq)
theorem idx_same (s t : Nat) : ∀ (c o : Nat) (g : Nat → Nat), (idx s o ((List.range c).map fun j => (g j, s))).length = c
  | 0, _, _ => rfl
  | c + 1, o, g => by
    rw [List.range_succ, List.map_append, idx_app, List.length_append, idx_same s t c o g]
    show c + (if s = s then [o + _] else []).length = c + 1
    rw [if_pos rfl]
    rfl
theorem idx_len (s : Nat) : ∀ (x : List (Nat × Nat)) (o : Nat), (idx s o x).length ≤ x.length
  | [], _ => Nat.le_refl _
  | p :: x, o => by
    have ih := idx_len s x (o + 1)
    show (if p.2 = s then o :: idx s (o + 1) x else idx s (o + 1) x).length ≤ x.length + 1
    by_cases z : p.2 = s
    · rw [if_pos z, List.length_cons]; omega
    · rw [if_neg z]; omega
/-- of a level: so many of its size, the first one behind the greater ones -/
theorem idx_lvl {f s c : Nat} {ds : List Nat} {low : List (Nat × Nat)} (hs : 0 < s) (hl : ∀ p ∈ low, p.2 < s) : ∃ r, idx s 0 (lvl f (c :: ds) s low) = (sh f ds (2 * s)).length :: r ∧ r.length = c := by
  have e : lvl f (c :: ds) s low = sh f ds (2 * s) ++ ((List.range (c + 1)).map (fun j => (f + tot ds (2 * s) + s * j, s)) ++ low) := by
    unfold lvl
    show (sh f ds (2 * s) ++ (List.range (c + 1)).map _) ++ low = _
    rw [List.append_assoc]
  rw [e, idx_app, idx_app, idx_none s (sh f ds (2 * s)) 0 fun p hp => ?_, idx_none s low _ fun p hp => ?_, List.append_nil, List.nil_append]
  · have l := idx_same s s (c + 1) (0 + (sh f ds (2 * s)).length) fun j => f + tot ds (2 * s) + s * j
    have e2 : (List.range (c + 1)).map (fun j => (f + tot ds (2 * s) + s * j, s)) = (f + tot ds (2 * s) + s * 0, s) :: (List.range c).map (fun j => (f + tot ds (2 * s) + s * (j + 1), s)) := by
      rw [List.range_succ_eq_map, List.map_cons, List.map_map]
      rfl
    rw [e2] at l ⊢
    have e3 : ∀ (o : Nat) (r : List (Nat × Nat)) (a : Nat), idx s o ((a, s) :: r) = o :: idx s (o + 1) r := fun o r a => if_pos rfl
    rw [e3] at l ⊢
    refine ⟨_, by rw [Nat.zero_add], ?_⟩
    rw [List.length_cons] at l
    rw [Nat.zero_add] at l
    omega
  · have := hl p hp
    omega
  · have := (sh_mem ds (2 * s) f p hp).2.2
    omega
theorem idx_lvl0 {f s : Nat} {low : List (Nat × Nat)} (hl : ∀ p ∈ low, p.2 < s) : (idx s 0 (lvl f [] s low)).length = 1 := by
  unfold lvl
  rw [idx_app, idx_none s low _ fun p hp => ?_, List.append_nil]
  · show (idx s 0 ([] ++ (List.range 1).map fun j => (f + 0 + s * j, s))).length = 1
    rw [List.nil_append]
    exact idx_same s s 1 0 fun j => f + 0 + s * j
  · have := hl p hp
    omega
theorem lows_lt {f c s t : Nat} {low : List (Nat × Nat)} (hs : 0 < s) (hl : ∀ p ∈ low, p.2 < s) : ∀ p ∈ lows f c s t low, p.2 < 2 * s := fun p hp => by
  rcases List.mem_append.mp hp with q | q
  · obtain ⟨j, _, rfl⟩ := List.mem_map.mp q
    show s < 2 * s
    omega
  · have := hl p q
    omega
end Sv
set_option Elab.async false
set_option linter.all false
set_option maxRecDepth 100000
set_option maxHeartbeats 4000000
namespace Pu
open PySem PySem.Spec PyProof.Rows L2 GxR
/-- o[lo:hi] = a list -/
def gSubSl (to : TE) (tl th : TO) : TG := fun v σ H Q => to σ H fun x H1 => tl σ H1 fun l H2 => th σ H2 fun u H3 => ∃ (p b : Addr) (xs ys : List V) (a c : Nat), x = .ref p ∧ v = .ref b ∧ l = some (a : Int) ∧ u = some (c : Int) ∧
  H3 p = some (.lst xs) ∧ H3 b = some (.lst ys) ∧ p ≠ b ∧ a ≤ c ∧ c ≤ xs.length ∧ xs.length + ys.length ≤ sizeLine ∧ Q σ (upd H3 p (.lst (xs.take a ++ ys ++ xs.drop c)))
section
variable {X : Cx} {pos p2 : Pos}
theorem pg_subSl {o : Expr} {lo hi : Option Expr} {to : TE} {tl th : TO} (ho : PE X o to) (hl : PO X lo tl) (hu : PO X hi th)
    (ha : ∀ v, assign (.Subscript o (.Slice lo hi none p2) pos) X.env v = (do
      let ov ← holding [v] (eval o X.env)
      let iv ← holding [v, ov] (eval (.Slice lo hi none p2) X.env)
      standAt pos
      holding [v, ov, iv] (setItem ov iv v)
      release [iv, v, ov] []) := by intro _; rfl) : PG X (.Subscript o (.Slice lo hi none p2) pos) (gSubSl to tl th) := by
  refine ⟨fun pins s σ H v u Q I r h => ?_⟩
  rw [ha]
  refine wpAny_bind (wpAny_holding (thn (ho.run pins s σ H _ I h) fun ov s1 ⟨x, H1, I1, r1, q1⟩ => ?_))
  refine wpAny_bind (wpAny_holding ?_)
  refine wpAny_Slice (thn (hl.run pins s1 σ H1 _ I1 q1) fun vl s2 ⟨l, H2, I2, pl, q2⟩ => thn (hu.run pins s2 σ H2 _ I2 q2) fun vu s3 ⟨uu, H3, I3, pu, q3⟩ => ?_)
  rw [evalPart_none]
  refine wpAny_pure ?_
  have I4 : Inv X pins σ H3 { s3 with heap := s3.heap.push { cls := .type "slice", data := .fields #[vl, vu, .none] } } := I3.kept (t' := s3.toks) fun b ob q => Heap.get?_push_of_some _ q
  obtain ⟨p, b, xs, ys, a, c, rfl, rfl, rfl, rfl, hp, hb, ne, hac, hc, hz, q⟩ := q3
  cases r1
  cases r
  refine wpAny_bind (wpAny_standAt (wpAny_bind (wpAny_holding ?_)))
  have ra : RelV (.int (a : Int)) vl := by cases pl with | int i t => exact ⟨t, rfl⟩
  have rc : RelV (.int (c : Int)) vu := by cases pu with | int i t => exact ⟨t, rfl⟩
  refine set_slice I4 hp hb ne (Heap.IsSliceOf.new _ vl vu .none) ra rc (by omega) (by omega) (by omega) hz fun s' I5 => ?_
  rw [Int.toNat_natCast, Int.toNat_natCast] at I5
  exact wpAny_release ⟨σ, _, I5, q⟩
end
end Pu
namespace K13
open PySem PySem.Spec PyProof.Rows L2 GxR Pu Evl Sh Sv
/-- a stretch's span, of these values -/
def spn (v : List Int) (p : Nat × Nat) : S5 := ⟨p.1, p.2, (sl v p).sum, lmin (sl v p), lmax (sl v p)⟩
theorem tot1 {A : Int} : tot [A] = A := by show (0 : Int) + A = A; omega
theorem tot2 {A B : Int} : tot [A, B] = A + B := by show ((0 : Int) + A) + B = A + B; omega
def Vok (v : List Int) : Prop := v.length ≤ 1000 ∧ ∀ y ∈ v, -1000000 ≤ y ∧ y ≤ 1000000
theorem spn_ok {v : List Int} {a i : Nat} (hv : Vok v) (h : a + 2 ^ i ≤ v.length) : (spn v (a, 2 ^ i)).Ok := by
  have pos : 1 ≤ 2 ^ i := Nat.one_le_two_pow
  have hl : (sl v (a, 2 ^ i)).length = 2 ^ i := sl_len (p := (a, 2 ^ i)) h
  have ne := sl_ne (v := v) (p := (a, 2 ^ i)) h pos
  have m1 := lmin_spec ne
  have m2 := lmax_spec ne
  have b1 := hv.2 _ (sl_mem m1.1)
  have b2 := hv.2 _ (sl_mem m2.1)
  have le := m1.2 _ m2.1
  have g1 := sum_ge1 m1.2 m2.1
  have g2 := sum_le1 m2.2 m1.1
  rw [hl] at g1 g2
  have v1 := hv.1
  generalize hS : (sl v (a, 2 ^ i)).sum = S at g1 g2
  generalize hA : lmin (sl v (a, 2 ^ i)) = A at *
  generalize hB : lmax (sl v (a, 2 ^ i)) = B at *
  have main : Good a (2 ^ i) S A B := by
    refine ⟨⟨i, rfl⟩, by omega, b1.1, le, b2.2, ?_, ?_, ?_⟩
    · unfold ends
      by_cases z : A = B
      · rw [if_pos z]; exact pos
      · rw [if_neg z]
        show 2 ≤ 2 ^ i
        cases hi : i with
        | zero =>
          exfalso
          subst hi
          have hl1 : (sl v (a, 2 ^ 0)).length = 1 := hl
          obtain ⟨x, hx⟩ := List.length_eq_one_iff.mp hl1
          rw [hx] at hA hB
          exact z (hA.symm.trans hB)
        | succ j => rw [Nat.pow_succ]; have : 1 ≤ 2 ^ j := Nat.one_le_two_pow; omega
    · unfold ends
      by_cases z : A = B
      · rw [if_pos z]
        subst z
        show tot [A] + (((2 ^ i : Nat) : Int) - ([A].length : Nat)) * A ≤ S
        have e : tot [A] = A := tot1
        rw [e, Int.sub_mul]
        simp
        simp at g1
        omega
      · rw [if_neg z]
        show tot [A, B] + (((2 ^ i : Nat) : Int) - ([A, B].length : Nat)) * A ≤ S
        have e : tot [A, B] = A + B := tot2
        rw [e, Int.sub_mul]
        simp
        simp at g1
        omega
    · unfold ends
      by_cases z : A = B
      · rw [if_pos z]
        subst z
        show S ≤ tot [A] + (((2 ^ i : Nat) : Int) - ([A].length : Nat)) * A
        have e : tot [A] = A := tot1
        rw [e, Int.sub_mul]
        simp
        simp at g2
        omega
      · rw [if_neg z]
        show S ≤ tot [A, B] + (((2 ^ i : Nat) : Int) - ([A, B].length : Nat)) * B
        have e : tot [A, B] = A + B := tot2
        rw [e, Int.sub_mul]
        simp
        simp at g2
        omega
  show Good a (2 ^ i) (sl v (a, 2 ^ i)).sum (lmin (sl v (a, 2 ^ i))) (lmax (sl v (a, 2 ^ i)))
  rw [hS, hA, hB]
  exact main
theorem spn_join {v : List Int} {a n : Nat} (h : a + n + n ≤ v.length) (h1 : 1 ≤ n) : (spn v (a, n)).join (spn v (a + n, n)) = spn v (a, 2 * n) := by
  have n1 := sl_ne (v := v) (p := (a, n)) (by show a + n ≤ v.length; omega) h1
  have n2 := sl_ne (v := v) (p := (a + n, n)) h h1
  have e : sl v (a, 2 * n) = sl v (a, n) ++ sl v (a + n, n) := by rw [sl_two, Nat.two_mul]
  unfold spn S5.join
  dsimp only
  rw [e, List.sum_append, lmin_app n1 n2, lmax_app n1 n2, Nat.two_mul]
theorem spn_snoc {v : List Int} {p : Nat × Nat} {x : Int} (h : p.1 + p.2 ≤ v.length) : spn (v ++ [x]) p = spn v p := by
  unfold spn
  rw [sl_snoc h]
theorem spn_last {v : List Int} {x : Int} : spn (v ++ [x]) (v.length, 1) = rowS v.length x := by
  unfold spn
  rw [sl_last]
  unfold rowS
  congr 1
  simp
end K13
set_option Elab.async false
set_option linter.all false
set_option maxRecDepth 100000
set_option maxHeartbeats 4000000
namespace K13
open PySem PySem.Spec PyProof.Rows L2 GxR Pu Evl Sh Sv
abbrev nSet : List Str := ["spans", "keep", "kept", "size", "places", "eldest", "at", "span"]
theorem scSettled : FnScope nSet ["spans", "keep"] (defScope sSettled) := ⟨rfl, rfl, rfl, by decide +kernel, rfl, by decide +kernel, by decide +kernel⟩
/-- one row more, settled -/
def Rl (k : Nat) (L L' : List S5) : Prop := ∃ (f m : Nat) (v : List Int), 2 ≤ k ∧ k ≤ 8 ∧ Vok v ∧ f + m + 1 = v.length ∧ L = (lvl f (counts k m) 1 []).map (spn v) ∧ L' = (sh f (counts k (m + 1)) 1).map (spn v)
theorem wipe2 {σ : L2.St} {i j : Nat} {x y : Option V} (h : i ≠ j) : wipe (((wipe σ [i, j]).set i x).set j y) [i, j] = wipe σ [i, j] := by
  show (((((σ.set j none).set i none).set i x).set j y).set j none).set i none = (σ.set j none).set i none
  rw [List.set_set, List.set_set, List.set_comm _ _ h, List.set_set, List.set_set]
def szI (L : List (Nat × Nat)) : List Int := L.map fun p => (p.2 : Int)
section
variable {P : Program} {w : World} {K : PySem.W.Frag} {mg : Str → Option Value} {base : Heap} {σ : L2.St} {H : Hp}
variable {fJo : Addr} {dJo : FuncData}
theorem idx_snoc (s : Nat) (L : List (Nat × Nat)) (p : Nat × Nat) : idx s 0 (L ++ [p]) = idx s 0 L ++ if p.2 = s then [L.length] else [] := by
  rw [idx_app, Nat.zero_add]
  congr 1
/-- [at for at, span in enumerate(kept) if span[1] == size] -/
theorem q_places {p : Addr} {xs : List V} {S : List (Nat × Nat)} {v : List Int} {s : Nat} (len : σ.length = 8) (h2 : σ[2]? = some (some (.ref p))) (h3 : σ[3]? = some (some (.int (s : Int)))) (hp : H p = some (.lst xs)) (hw : Paired (SpT H) (S.map (spn v)) xs) (hl : S.length ≤ 2000) {Q : VK}
    (k : ∀ D H', H D = none → Ex H H' → H' D = some (.lst (natsV (idx s 0 S))) → Q (.ref D) H') :
    tLc (iEnum K (tCons (tVar 2) tNil)) (gTup K 2 (gCons (gName 6) (gCons (gName 7) gNil))) (tTest (tOp rEq (tOp (rIx K) (tVar 7) (tC (.int 1))) (tVar 3))) (tVar 6) [6, 7] σ H Q := by
  have hxl : S.length = xs.length := by have := Paired.length hw; rw [List.length_map] at this; exact this
  refine ⟨.ref p, h2, p, xs, rfl, SqL.of hp, fun D hD => ?_⟩
  have w0 : ((wipe σ [6, 7])).length = 8 := by rw [wipe_length]; exact len
  refine lc_gen (walk_enum (K := K) (a := p) (xs := xs)) (fun m H' acc => acc = natsV (idx s 0 (S.take m))) (by omega) hD (fun m H xs ys acc h r => r) rfl (fun H' e => SqL.of (e _ _ hp)) ?_ ?_
  · intro m y Ha Hb acc hi ex yy hR Qy Qn hy hn
    obtain ⟨T, a, b, rfl, hT, rfl, ha, hb⟩ := yy
    have ea : a = .int (m : Nat) := (Option.some.inj ha).symm
    subst ea
    obtain ⟨sp, hs, hq⟩ := Paired.atR hw hb
    rw [List.getElem?_map] at hs
    obtain ⟨q0, hq0, rfl⟩ := Option.map_eq_some_iff.mp hs
    have tk : S.take (m + 1) = S.take m ++ [q0] := by rw [List.take_add_one, hq0]; rfl
    have tl : (S.take m).length = m := by rw [List.length_take]; omega
    have exT := Ex.new hT (o := .tup [V.int (m : Nat), b])
    obtain ⟨b', rfl, hb'⟩ := (hq.ex ex).ex exT
    have i3 : (((wipe σ [6, 7]).set 6 (some (V.int (m : Nat)))).set 7 (some (.ref b')))[3]? = some (some (.int (s : Int))) := sl_ne (sl_ne (sl_ne (sl_ne h3 (by decide)) (by decide)) (by decide)) (by decide)
    have i7 : (((wipe σ [6, 7]).set 6 (some (V.int (m : Nat)))).set 7 (some (.ref b')))[7]? = some (some (.ref b')) := sl_eq (by rw [List.length_set, w0]; decide)
    have i6 : (((wipe σ [6, 7]).set 6 (some (V.int (m : Nat)))).set 7 (some (.ref b')))[6]? = some (some (.int (m : Nat))) := sl_ne (sl_eq (by rw [w0]; decide)) (by decide)
    refine ⟨T, _, rfl, SqT.of upd_same, rfl, _, _, rfl, _, _, rfl, rfl, wipe2 (by decide), ?_⟩
    refine ⟨_, i7, rd_ix (j := 1) ⟨b', rfl, .inl (SqT.of hb')⟩ rfl ⟨_, i3, rfl, _, rfl, ite2 (fun c => ?_) fun c => ?_⟩⟩
    · have c' : q0.2 = s := by
        simp [spn] at c
        omega
      refine ⟨_, i6, hy _ _ exT ?_⟩
      rw [tk, idx_snoc, if_pos c', hR, tl]
      show _ = natsV (_ ++ [m])
      unfold natsV
      rw [List.map_append]
      rfl
    · have c' : ¬ q0.2 = s := fun z => c (by simp [spn, z])
      refine hn _ exT ?_
      rw [tk, idx_snoc, if_neg c', List.append_nil]
      exact hR
  · intro H4 acc e4 hD4 hR
    rw [← hxl, List.take_length] at hR
    exact k D H4 hD e4 (by rw [hD4, hR])
theorem PairedU {L : List S5} {xs : List V} {H : Hp} {p : Addr} {o : HO} {zs : List V} (h : Paired (SpT H) L xs) (hp : H p = some (.lst zs)) : Paired (SpT (upd H p o)) L xs := Paired.mapP h fun _ _ ⟨b, h1, h2⟩ => ⟨b, h1, by rw [upd_ne (fun z => by rw [z, hp] at h2; cases h2)]; exact h2⟩
theorem Paired.atL {α β : Type} {F : α → β → Prop} {l : List α} {m : List β} (h : Paired F l m) : ∀ {i : Nat} {x : α}, l[i]? = some x → ∃ b, m[i]? = some b ∧ F x b := by
  induction h with
  | nil => intro i x e; cases e
  | cons r t ih =>
    intro i x e
    cases i with
    | zero => cases e; exact ⟨_, rfl, r⟩
    | succ i => exact ih e
theorem Paired.takeP {α β : Type} {F : α → β → Prop} {l : List α} {m : List β} (h : Paired F l m) : ∀ n, Paired F (l.take n) (m.take n) := by
  induction h with
  | nil => intro n; rw [List.take_nil, List.take_nil]; exact .nil
  | cons r t ih =>
    intro n
    cases n with
    | zero => exact .nil
    | succ n => exact .cons r (ih n)
theorem Paired.dropP {α β : Type} {F : α → β → Prop} {l : List α} {m : List β} (h : Paired F l m) : ∀ n, Paired F (l.drop n) (m.drop n) := by
  induction h with
  | nil => intro n; rw [List.drop_nil, List.drop_nil]; exact .nil
  | cons r t ih =>
    intro n
    cases n with
    | zero => exact .cons r t
    | succ n => exact ih n
theorem gName_of {i : Nat} {x : V} {σ : L2.St} {H : Hp} {Q : L2.St → Hp → Prop} (h : Q (σ.set i (some x)) H) : gName i x σ H Q := h
theorem asg_of {te : TE} {g : TG} {u : TS} {D : Ends} {σ : L2.St} {H : Hp} (h : te σ H fun x H1 => g x σ H1 (u D)) : tSeq (tAsg te g) u D σ H := h
theorem asg1_of {te : TE} {g : TG} {D : Ends} {σ : L2.St} {H : Hp} (h : te σ H fun x H1 => g x σ H1 D.nx) : tAsg te g D σ H := h
theorem ok_settled {f : Addr} {fd : FuncData} (G : Mg mg) (F : Fun K "settled" "settled" sSettled f fd) (F1 : Fns K mg "join" ["one", "other"] sJoin fJo dJo) (G1 : FnOk P w K mg base CX0 5 fJo dJo ["one", "other"] (spJoin K)) : FnOk P w K mg base CX0 6 f fd ["spans", "keep"] (spSettled Rl) := by
  refine F.ok scSettled (fun vs H Q E h => ?_) (fun cdv A outer s H vs Q E hr h => ?_)
  · obtain ⟨k, e, L, L', xs, rfl, _⟩ := h
    rfl
  · obtain ⟨k, e, L, L', xs, rfl, he, hw, ⟨f0, m, v, k2, k8, hv, hl, rfl, rfl⟩, kk⟩ := h
    refine ⟨_, pss_cons (ps_set (i := 2) scSettled.nd rfl (.inl rfl) (pe_callTy (T := "list") call_list_of (by rfl) G.list (by decide +kernel) (pa_cons (pv 0) pa_nil)))
      (pss_cons (ps_set (i := 3) scSettled.nd rfl (.inr rfl) pe_int)
      (pss_cons (ps_setLc (i := 4) (own := [("at", 6), ("span", 7)]) (g := gTup K 2 (gCons (gName 6) (gCons (gName 7) gNil))) (tt := tTest (tOp rEq (tOp (rIx K) (tVar 7) (tC (.int 1))) (tVar 3))) (te := tVar 6) (by rfl) scSettled.nd rfl rfl (sw_true rfl rfl rfl (by decide +kernel))
          (pi_enum (by rfl) G.enumerate (pa_cons (pv 2) pa_nil)) (blkOk_by (own := [("at", 6), ("span", 7)]) (N := nSet) (sc := defScope sSettled) (by decide +kernel))
          (fun _ _ _ _ _ => pg_tup rfl (pgs_cons (pg_name (i := 6) scSettled.nd rfl (.inl rfl)) (pgs_cons (pg_name (i := 7) scSettled.nd rfl (.inl rfl)) pgs_nil)))
          (fun _ _ _ _ _ => pts_one (pt_cmpR op_eq (pe_ix ix_seq (pv 7) pe_int (fun _ _ => rfl)) (pv 3) (nomark _))) (fun _ _ _ _ _ => pv 6))
      (pss_cons (ps_while PassesOwn.never (pt_cmpR op_gt (pe_callB call_len_seq (by rfl) G.len PySem.boot_len (pa_cons (pv 4) pa_nil)) (pv 1) (nomark _))
        (pss_cons (ps_set (i := 5) scSettled.nd rfl (.inl rfl) (pe_ix ix_seq (pv 4) pe_int (fun _ _ => rfl)))
        (pss_cons (ps_asg (pe_lst (pa_cons (pe_call G1 hr (by rfl) F1.mg F1.fn.kp F1.bd .nil pass0 (pa_cons (pe_ix ix_seq (pv 2) (pv 5) (fun _ _ => rfl)) (pa_cons (pe_ix ix_seq (pv 2) (pe_op op_add (pv 5) pe_int) (fun _ _ => rfl)) pa_nil))) pa_nil))
            (pg_subSl (pv 2) (po_some (pv 5)) (po_some (pe_op op_add (pv 5) pe_int))))
        (pss_cons (ps_aug (i := 3) scSettled.nd rfl (.inr rfl) pe_int iop_mul)
        (pss_one (ps_setLc (i := 4) (own := [("at", 6), ("span", 7)]) (g := gTup K 2 (gCons (gName 6) (gCons (gName 7) gNil))) (tt := tTest (tOp rEq (tOp (rIx K) (tVar 7) (tC (.int 1))) (tVar 3))) (te := tVar 6) (by rfl) scSettled.nd rfl rfl (sw_true rfl rfl rfl (by decide +kernel))
          (pi_enum (by rfl) G.enumerate (pa_cons (pv 2) pa_nil)) (blkOk_by (own := [("at", 6), ("span", 7)]) (N := nSet) (sc := defScope sSettled) (by decide +kernel))
          (fun _ _ _ _ _ => pg_tup rfl (pgs_cons (pg_name (i := 6) scSettled.nd rfl (.inl rfl)) (pgs_cons (pg_name (i := 7) scSettled.nd rfl (.inl rfl)) pgs_nil)))
          (fun _ _ _ _ _ => pts_one (pt_cmpR op_eq (pe_ix ix_seq (pv 7) pe_int (fun _ _ => rfl)) (pv 3) (nomark _))) (fun _ _ _ _ _ => pv 6)))))))
      (pss_one (ps_ret (pe_callTy (T := "tuple") call_tuple_of (by rfl) G.tuple (by decide +kernel) (pa_cons (pv 2) pa_nil))))))), ?_⟩
    refine ⟨_, rfl, e, xs, rfl, .inl (SqL.of he), fun p hp => ?_⟩
    have e1 := Ex.new hp (o := .lst xs)
    have hw1 := Paired.mapP hw fun _ _ h => h.ex e1
    have hb : ∀ m, (∃ q ∈ counts k m, q = 0) → False := fun m ⟨q, hq, z⟩ => by
      by_cases c : 0 < m
      · have := (val_all k2 (counts_val k2 m c) q hq).1; omega
      · rw [show m = 0 by omega, counts_zero] at hq; cases hq
    have hk : ∀ c ∈ counts k m, 1 ≤ c ∧ c ≤ k := fun c hc => by
      by_cases z : 0 < m
      · exact val_all k2 (counts_val k2 m z) c hc
      · rw [show m = 0 by omega, counts_zero] at hc; cases hc
    have lvlen : ∀ (ds : List Nat) (s : Nat) (low : List (Nat × Nat)), 0 < s → f0 + Sh.tot ds s + s ≤ v.length → low.length ≤ v.length → (lvl f0 ds s low).length ≤ 2000 := fun ds s low hs h1 h2 => by
      unfold lvl
      have a := sh_len (bump ds) s f0 hs
      rw [tot_bump] at a
      have := hv.1
      rw [List.length_append]
      omega
    refine gName_of ?_
    dsimp only
    refine q_asg (v := .int 1) ev_c fun H0 e0 => ?_
    refine asg_of (q_places (S := lvl f0 (counts k m) 1 []) (s := 1) rfl rfl rfl (e0 _ _ upd_same) (Paired.mapP hw1 fun _ _ h => h.ex e0) (lvlen _ _ _ (by decide) (by rw [counts_tot k2]; omega) (Nat.zero_le _)) fun D H1 hD ex1 hD1 => ?_)
    have e01 := e0.trans ex1
    refine ⟨fun n σ' H' => ∃ (D : Addr) (y5 : Option V) (ys : List V) (ds : List Nat) (low : List (Nat × Nat)) (i : Nat), σ' = [some (.ref e), some (.int (k : Int)), some (.ref p), some (.int ((2 ^ i : Nat) : Int)), some (.ref D), y5, none, none] ∧ ds.length = n ∧ Ex H H' ∧ H' p = some (.lst ys) ∧
        Paired (SpT H') ((lvl f0 ds (2 ^ i) low).map (spn v)) ys ∧ H' D = some (.lst (natsV (idx (2 ^ i) 0 (lvl f0 ds (2 ^ i) low)))) ∧ (∀ p ∈ low, p.2 < 2 ^ i) ∧ (∀ d ∈ ds, 1 ≤ d ∧ d ≤ k) ∧ f0 + Sh.tot ds (2 ^ i) + 2 ^ i + low.length ≤ v.length ∧ sh f0 (inc k ds) (2 ^ i) ++ low = sh f0 (counts k (m + 1)) 1,
      ⟨_, D, none, xs, counts k m, [], 0, rfl, rfl, e1.trans e01, e01 _ _ upd_same, Paired.mapP hw1 fun _ _ h => h.ex e01, hD1, (fun _ h => nomatch h), hk, by rw [counts_tot k2]; simp; omega, by rw [List.append_nil, inc_counts k2]⟩, ?_⟩
    rintro n σ' H' ⟨D, y5, ys, ds, low, i, rfl, rfl, ex, hp', hw', hD', hlow, hds, hlen, hfin⟩
    have p2 : 0 < 2 ^ i := Nat.two_pow_pos i
    refine ⟨_, rfl, D, _, rfl, .inl (SqL.of hD'), _, rfl, _, _, rfl, rfl, _, rfl, ite2 (fun c => ?_) fun c => ?_⟩
    · have c' : k < (idx (2 ^ i) 0 (lvl f0 ds (2 ^ i) low)).length := by
        have := of_decide_eq_true c
        simp [natsV] at this
        omega
      cases ds with
      | nil => rw [idx_lvl0 hlow] at c'; omega
      | cons c0 ds =>
        obtain ⟨r, hr1, hr2⟩ := idx_lvl (f := f0) (c := c0) (ds := ds) p2 hlow
        rw [hr1, List.length_cons, hr2] at c'
        have c1 := hds c0 List.mem_cons_self
        have ck : ¬ c0 < k := by omega
        obtain ⟨r2, hl1, hl2⟩ := lvl_step (f := f0) (s := 2 ^ i) (ds := ds) (low := low) c1.1
        have h2i : 2 * 2 ^ i = 2 ^ (i + 1) := by rw [Nat.pow_succ]; omega
        rw [h2i] at hl1 hl2 hr1
        have t0 : Sh.tot (c0 :: ds) (2 ^ i) = Sh.tot ds (2 ^ (i + 1)) + 2 ^ i * c0 := by
          rw [← h2i]
          rfl
        rw [t0] at hlen
        have mc : 2 ^ i * 1 ≤ 2 ^ i * c0 := Nat.mul_le_mul_left _ c1.1
        rw [hr1] at hD'
        rw [hl1] at hw'
        generalize hA : sh f0 ds (2 ^ (i + 1)) = A at *
        generalize hB : f0 + Sh.tot ds (2 ^ (i + 1)) = B at *
        have hys : (A ++ (B, 2 ^ i) :: (B + 2 ^ i, 2 ^ i) :: r2).length = ys.length := by have := Paired.length hw'; rw [List.length_map] at this; exact this
        rw [List.length_append, List.length_cons, List.length_cons] at hys
        have g1 : ((A ++ (B, 2 ^ i) :: (B + 2 ^ i, 2 ^ i) :: r2).map (spn v))[A.length]? = some (spn v (B, 2 ^ i)) := by
          rw [List.getElem?_map, List.getElem?_append_right (Nat.le_refl _), Nat.sub_self]; rfl
        have g2 : ((A ++ (B, 2 ^ i) :: (B + 2 ^ i, 2 ^ i) :: r2).map (spn v))[A.length + 1]? = some (spn v (B + 2 ^ i, 2 ^ i)) := by
          rw [List.getElem?_map, List.getElem?_append_right (Nat.le_succ _), show A.length + 1 - A.length = 1 by omega]; rfl
        obtain ⟨y1, hy1, s1⟩ := Paired.atL hw' g1
        obtain ⟨y2, hy2, s2⟩ := Paired.atL hw' g2
        have v1 := hv.1
        have a1 : A.length + 2 ≤ ys.length := by omega
        have hyl : ys.length ≤ 3000 := by
          have a := lvlen (c0 :: ds) (2 ^ i) low p2 (by rw [t0]; omega) (by omega)
          rw [hl1, List.length_append, List.length_cons, List.length_cons] at a
          omega
        have bb1 : B + 2 ^ i + 2 ^ i ≤ v.length := by omega
        refine ⟨fun σ2 H2 => ∃ m', m' < (c0 :: ds).length ∧ _, fun σ2 H2 h => h, ?_⟩
        refine ⟨_, rfl, .inl ⟨D, _, _, _, rfl, rfl, SqL.of hD', atI_nat (j := 0) rfl, ?_⟩⟩
        refine ⟨.ref p, rfl, .int (A.length : Nat), rfl, .inl ⟨p, ys, _, y1, rfl, rfl, SqL.of hp', atI_nat hy1, ?_⟩⟩
        refine ⟨.ref p, rfl, .int (A.length : Nat), rfl, _, _, rfl, rfl, .inl ⟨p, ys, _, y2, rfl, rfl, SqL.of hp', atI_nat (j := A.length + 1) hy2, ?_⟩⟩
        refine ⟨_, _, y1, y2, rfl, s1.e, s2.e, spn_ok hv (by omega), spn_ok hv (by omega), rfl, rfl, fun q H3 hq e3 h3 => ⟨by show 1 ≤ sizeLine; decide, fun b hb => ?_⟩⟩
        have e4 := Ex.new hb (o := .lst [V.ref q])
        have e34 := e3.trans e4
        have pb : p ≠ b := fun z => by rw [← z, e3 _ _ hp'] at hb; cases hb
        refine ⟨.ref p, rfl, .int (A.length : Nat), rfl, (A.length : Nat), rfl, .int (A.length : Nat), rfl, _, _, rfl, rfl, _, rfl, p, b, ys, [.ref q], A.length, A.length + 2, rfl, rfl, rfl, rfl, e34 _ _ hp', upd_same, pb, by omega, a1, Nat.le_trans (show ys.length + 1 ≤ 3001 by omega) (by decide), ?_⟩
        refine ⟨_, rfl, _, _, rfl, rfl, .inr ⟨by decide, by decide⟩, ?_⟩
        have pw : ((2 ^ i : Nat) : Int) * 2 = ((2 ^ (i + 1) : Nat) : Int) := by rw [Nat.pow_succ]; omega
        have w3 : Paired (SpT (upd H3 b (.lst [V.ref q]))) ((lvl f0 ds (2 ^ (i + 1)) (lows f0 (c0 - 1) (2 ^ i) (Sh.tot ds (2 ^ (i + 1)) + 2 ^ (i + 1)) low)).map (spn v)) (ys.take A.length ++ [V.ref q] ++ ys.drop (A.length + 2)) := by
          have hw4 := Paired.mapP hw' fun _ _ h => h.ex e34
          have x1 := Paired.takeP hw4 A.length
          have x2 := Paired.dropP hw4 (A.length + 2)
          rw [← List.map_take, List.take_left] at x1
          rw [← List.map_drop, List.drop_append, show A.length + 2 - A.length = 2 by omega, List.drop_of_length_le (by omega : A.length ≤ A.length + 2), List.nil_append] at x2
          rw [hl2, List.map_append, List.append_assoc]
          refine Paired.app x1 (.cons ⟨q, rfl, e4 _ _ ?_⟩ x2)
          rw [h3, spn_join bb1 p2, h2i]
        have w4 := PairedU (o := .lst (ys.take A.length ++ [V.ref q] ++ ys.drop (A.length + 2))) w3 (e34 _ _ hp')
        have exA : Ex H (upd (upd H3 b (.lst [V.ref q])) p (.lst (ys.take A.length ++ [V.ref q] ++ ys.drop (A.length + 2)))) := Ex.mut (ex.trans e34) hp
        have hlow' := lows_lt (f := f0) (c := c0 - 1) (s := 2 ^ i) (t := Sh.tot ds (2 ^ (i + 1)) + 2 ^ (i + 1)) p2 hlow
        have hll : (lows f0 (c0 - 1) (2 ^ i) (Sh.tot ds (2 ^ (i + 1)) + 2 ^ (i + 1)) low).length = c0 - 1 + low.length := by
          unfold lows
          rw [List.length_append, List.length_map, List.length_range]
        have cle : c0 ≤ 2 ^ i * c0 := by
          have := Nat.mul_le_mul_right c0 p2
          omega
        have p21 : 2 ^ (i + 1) = 2 ^ i + 2 ^ i := by rw [Nat.pow_succ]; omega
        have mcc : 2 ^ i + (c0 - 1) ≤ 2 ^ i * c0 := by
          obtain ⟨d, rfl⟩ : ∃ d, c0 = d + 1 := ⟨c0 - 1, by omega⟩
          have : d ≤ 2 ^ i * d := by have := Nat.mul_le_mul_right d p2; omega
          rw [Nat.mul_add, Nat.mul_one]
          omega
        refine asg1_of (q_places (S := lvl f0 ds (2 ^ (i + 1)) (lows f0 (c0 - 1) (2 ^ i) (Sh.tot ds (2 ^ (i + 1)) + 2 ^ (i + 1)) low)) (v := v) (s := 2 ^ (i + 1)) rfl rfl (by rw [← pw]; rfl) upd_same w4 ?_ fun D2 H5 hD2 e5 h5 => ?_)
        · refine lvlen _ _ _ (Nat.two_pow_pos _) (by omega) (by omega)
        refine ⟨ds.length, by rw [List.length_cons]; omega, D2, some (.int (A.length : Nat)), _, ds, _, i + 1, ?_, rfl, exA.trans e5, e5 _ _ upd_same, Paired.mapP w4 fun _ _ h => h.ex e5, h5, ?_, fun d hd => hds d (List.mem_cons_of_mem _ hd), by omega, ?_⟩
        · rw [← pw]
          rfl
        · rw [h2i] at hlow'; exact hlow'
        · rw [← hfin, lvl_fin ck fun d hd => (hds d (List.mem_cons_of_mem _ hd)).1, h2i]
    · have c' : ¬ k < (idx (2 ^ i) 0 (lvl f0 ds (2 ^ i) low)).length := fun z => c (decide_eq_true (by simp [natsV]; omega))
      have hend : lvl f0 ds (2 ^ i) low = sh f0 (counts k (m + 1)) 1 := by
        rw [← hfin]
        cases ds with
        | nil => rfl
        | cons c0 ds =>
          obtain ⟨r, hr1, hr2⟩ := idx_lvl (f := f0) (c := c0) (ds := ds) p2 hlow
          rw [hr1, List.length_cons, hr2] at c'
          exact lvl_end (by omega)
      rw [hend] at hw'
      refine ⟨_, rfl, p, ys, rfl, .inl ⟨SqL.of hp', fun l hl => ?_⟩⟩
      have e9 := Ex.new hl (o := .tup ys)
      exact kk l ys _ (fresh_back ex hl) (ex.trans e9) upd_same (Paired.mapP hw' fun _ _ h => h.ex e9)
end
end K13
set_option Elab.async false
set_option linter.all false
set_option maxRecDepth 100000
set_option maxHeartbeats 4000000
namespace K13
open PySem PySem.Spec PyProof.Rows L2 GxR Pu Evl Sh Sv
theorem scIsStore : FnScope ["keep", "value", "laid", "last", "spans"] ["keep", "value"] (defScope sIsStore) := ⟨rfl, rfl, rfl, by decide +kernel, rfl, by decide +kernel, by decide +kernel⟩
theorem scLaidAll : FnScope ["keep", "rows", "store", "stamp", "told"] ["keep", "rows"] (defScope sLaidAll) := ⟨rfl, rfl, rfl, by decide +kernel, rfl, by decide +kernel, by decide +kernel⟩
/-- what stands stays, but for two tables -/
def ExT2 (T U : Addr) (H H' : Hp) : Prop := TabG H' T ∧ TabG H' U ∧ ∀ b o, b ≠ T → b ≠ U → H b = some o → H' b = some o
def spIsStore (T U : Addr) : Sp := fun vs H Q _ => ∃ (k l f : Nat) (la : Option Nat) (L : List S5) (v : V), vs = [.int (k : Int), v] ∧ 2 ≤ k ∧ k ≤ 8 ∧ StT H l la L v ∧ (la = none ↔ l = 0) ∧ (∀ s ∈ L, s.Ok) ∧ f ≤ l ∧ l ≤ 1000 ∧ (L.map fun s => (s.f, s.n)) = shp k f l ∧ TabG H T ∧ TabG H U ∧ T ≠ U ∧
  ∀ H', ExT2 T U H H' → Q (.bl true) H'
section
variable {P : Program} {w : World} {K : PySem.W.Frag} {mg : Str → Option Value} {base : Heap} {σ : L2.St} {H H' : Hp} {T U : Addr}
variable {fNN fNK fSF fNum fInt fPar fSq fSpa fISh fSO : Addr} {dNN dNK dSF dNum dInt dPar dSq dSpa dISh dSO : FuncData}
theorem TabG.exT {V' : Addr} (t : TabG H V') (e : ExT T H H') (n : V' ≠ T) : TabG H' V' := by
  obtain ⟨ps, h1, h2⟩ := t
  exact ⟨ps, e.2 _ _ n h1, h2⟩
theorem StT.exT {l : Nat} {la : Option Nat} {L : List S5} {v : V} (h : StT H l la L v) (t : TabG H T) (e : ExT T H H') : StT H' l la L v := by
  obtain ⟨a, b, xs, rfl, h1, h2, h3⟩ := h
  have go : ∀ {q : Addr} {ys : List V}, H q = some (.tup ys) → H' q = some (.tup ys) := fun {q ys} z => e.2 _ _ (TabG.ne t z fun ps z => by cases z) z
  exact ⟨a, b, xs, rfl, go h1, go h2, Paired.mapP h3 fun _ _ ⟨b, h1, h2⟩ => ⟨b, h1, go h2⟩⟩
theorem StT.exT2 {l : Nat} {la : Option Nat} {L : List S5} {v : V} (h : StT H l la L v) (t : TabG H T) (u : TabG H U) (e : ExT2 T U H H') : StT H' l la L v := by
  obtain ⟨a, b, xs, rfl, h1, h2, h3⟩ := h
  have go : ∀ {q : Addr} {ys : List V}, H q = some (.tup ys) → H' q = some (.tup ys) := fun {q ys} z => e.2.2 _ _ (TabG.ne t z fun ps z => by cases z) (TabG.ne u z fun ps z => by cases z) z
  exact ⟨a, b, xs, rfl, go h1, go h2, Paired.mapP h3 fun _ _ ⟨b, h1, h2⟩ => ⟨b, h1, go h2⟩⟩
theorem ok_is_store {f : Addr} {fd : FuncData} (M : L2.Mod K mg base) (G : Mg mg) (F : Fun K "is_store" "is_store" sIsStore f fd) (B : Base P w K mg base fNN fNK fSF dNN dNK dSF)
    (F1 : Fns K mg "need_keep" ["keep"] sNeedKeep fNK dNK) (F2 : Fns K mg "is_of_parts" ["value", "many"] sIsOfParts fPar dPar) (F3 : Fns K mg "is_sequence" ["value"] sIsSequence fSq dSq) (F4 : Fns K mg "is_number" ["value"] sIsNumber fNum dNum) (F5 : Fns K mg "is_integer" ["value"] sIsInteger fInt dInt)
    (F6 : Fns K mg "are_spans" ["value"] sAreSpans fSpa dSpa) (G6 : FnOk P w K mg base CX0 6 fSpa dSpa ["value"] (spSpans K T)) (F7 : Fns K mg "is_shape" ["keep", "laid", "value"] sIsShape fISh dISh) (G7 : FnOk P w K mg base CX0 6 fISh dISh ["keep", "laid", "value"] (spIsShape K U))
    (F8 : Fns K mg "shape_of" ["store"] sShapeOf fSO dSO) (G8 : FnOk P w K mg base CX0 1 fSO dSO ["store"] (spShapeOf K)) : FnOk P w K mg base CX0 7 f fd ["keep", "value"] (spIsStore T U) := by
  have G2 : FnOk P w K mg base CX0 2 fPar dPar ["value", "many"] (spPure P w base ["value", "many"] pOfParts) := (pf_is_of_parts M G F2.fn F3.fn F3.bd F3.mg).ok
  have G4 : FnOk P w K mg base CX0 2 fNum dNum ["value"] (spPure P w base ["value"] pNumber) := (pf_is_number M G F4.fn F5.fn F5.bd F5.mg).ok
  refine F.ok scIsStore (fun vs H Q E h => ?_) (fun cdv A outer s H vs Q E hr h => ?_)
  · obtain ⟨k, l, f, la, L, v, rfl, _⟩ := h
    rfl
  · obtain ⟨k, l, f0, la, L, v, rfl, k2, k8, hs, hla, hok, hfl, hl, hsh, tT, tU, nTU, kk⟩ := h
    refine ⟨_, pss_cons (ps_expr (pe_call B.nk (hr.mono (by decide)) (by rfl) F1.mg F1.fn.kp F1.bd .nil pass0 (pa_cons (pv 0) pa_nil)))
      (pss_cons (ps_if (pt_not (pt_val (pe_call G2 (hr.mono (by decide)) (by rfl) F2.mg F2.fn.kp F2.bd .nil pass0 (pa_cons (pv 1) (pa_cons pe_int pa_nil))))) (pss_one (ps_ret pe_bl)) pss_nil)
      (pss_cons (ps_asg (pv 1) (pg_seq rfl (pgs_cons (pg_name (i := 2) scIsStore.nd rfl (.inl rfl)) (pgs_cons (pg_name (i := 3) scIsStore.nd rfl (.inl rfl)) (pgs_cons (pg_name (i := 4) scIsStore.nd rfl (.inl rfl)) pgs_nil)))))
      (pss_cons (ps_if (PW.pt (pw_or (pt_not (pt_val (pe_call G4 (hr.mono (by decide)) (by rfl) F4.mg F4.fn.kp F4.bd .nil pass0 (pa_cons (pv 2) pa_nil)))) (pw_or1 (pt_not (pt_val (pe_call G6 hr (by rfl) F6.mg F6.fn.kp F6.bd .nil pass0 (pa_cons (pv 4) pa_nil))))))) (pss_one (ps_ret pe_bl)) pss_nil)
      (pss_cons (ps_if (PW.pt (pw_or (PW.pt (pw_and (pt_cmpR op_eq (pv 2) pe_int (nomark _)) (pw_and1 (pt_cmp (pc_notN (pv 3)))))) (pw_or1 (PW.pt (pw_and (pt_cmpR op_gt (pv 2) pe_int (nomark _)) (pw_and1 (pt_not (pt_val (pe_call G4 (hr.mono (by decide)) (by rfl) F4.mg F4.fn.kp F4.bd .nil pass0 (pa_cons (pv 3) pa_nil)))))))))) (pss_one (ps_ret pe_bl)) pss_nil)
      (pss_one (ps_ret (pe_call G7 hr (by rfl) F7.mg F7.fn.kp F7.bd .nil pass0 (pa_cons (pv 0) (pa_cons (pv 2) (pa_cons (pe_call G8 (hr.mono (by decide)) (by rfl) F8.mg F8.fn.kp F8.bd .nil pass0 (pa_cons (pv 1) pa_nil)) pa_nil)))))))))), ?_⟩
    have hs0 := hs
    obtain ⟨a, e, xs, rfl, ha, he, hw⟩ := hs
    have hLl : L.length ≤ 2000 := by
      have : (L.map fun s => (s.f, s.n)).length ≤ l - f0 := by rw [hsh]; exact shp_len k2
      rw [List.length_map] at this
      omega
    refine q_drop (v := .non) (ev_call (ea_cons (ev_var rfl) ea_nil) (spV.use fun H1 _ => ⟨k, rfl, by omega, by omega, rfl⟩)) fun H1 e1 => ?_
    have ep : Ev (tCall (spPure P w base ["value", "many"] pOfParts) [] E0 (tCons (tVar 1) (tCons (tC (.int 3)) tNil))) (start ["keep", "value", "laid", "last", "spans"] [.int (k : Int), .ref a]) H1 (.bl true) := ev_call (ea_cons (ev_var rfl) (ea_cons ev_c ea_nil)) (spPure.use rfl fun H2 e2 h ok bx => by
      obtain ⟨bb, its, rv, sq⟩ := TyG.of_sq ok (M.kin.keeps bx) (.inl (SqT.of ((e1.trans e2) _ _ ha)))
      exact ⟨_, _, _, rfl, .seq sq, by rw [← rv.length]; rfl⟩)
    refine ep H1 (Ex.refl H1) _ fun H2 e2 => ⟨true, rfl, ite2 (fun z => nomatch z) fun _ => ?_⟩
    have e12 := e1.trans e2
    refine ⟨_, rfl, a, _, rfl, .inl (SqT.of (e12 _ _ ha)), rfl, _, _, rfl, _, _, rfl, _, _, rfl, rfl, ?_⟩
    have en : ∀ {σ : L2.St} {H3 : Hp} {i : Nat} {n : Nat}, σ[i]? = some (some (.int (n : Int))) → Ev (tCall (spPure P w base ["value"] pNumber) [] E0 (tCons (tVar i) tNil)) σ H3 (.bl true) := fun {σ H3 i n} hi => ev_call (ea_cons (ev_var hi) ea_nil) (spPure.use rfl fun H1 _ h _ _ => ⟨_, _, rfl, .int _, by rw [show isNum (.int (n : Int)) = true from decide_eq_true (show (n : Int) ≥ 0 by omega)]⟩)
    refine en rfl H2 (Ex.refl H2) _ fun H3 e3 => ⟨true, rfl, ite2 (fun z => nomatch z) fun _ => ?_⟩
    have e13 := e12.trans e3
    have s3 := hs0.ex e13
    have t3 := TabG.ex tT e13
    have u3 := TabG.ex tU e13
    refine ⟨.ref e, rfl, e, L, xs, rfl, .inl (SqT.of (e13 _ _ he)), Paired.mapP hw fun _ _ h => (h.ex e13).e, hok, t3, fun H4 x4 => ⟨true, rfl, ite2 (fun z => nomatch z) fun _ => ?_⟩⟩
    have s4 := s3.exT t3 x4
    have u4 := TabG.exT u3 x4 (Ne.symm nTU)
    have fin : ∀ H5, Ex H4 H5 → (tRet (tCall (spIsShape K U) [] E0 (tCons (tVar 0) (tCons (tVar 2) (tCons (tCall (spShapeOf K) [] E0 (tCons (tVar 1) tNil)) tNil))))) { nx := fun x H' => Q V.non H', rt := Q } [some (.int (k : Int)), some (.ref a), some (.int (l : Int)), some (nonV la), some (.ref e)] H5 := fun H5 e5 => by
      have s5 := s4.ex e5
      refine ⟨_, rfl, _, rfl, _, rfl, l, la, L, .ref a, rfl, s5.e, hLl, fun q ys H6 hq e6 h6 p6 => ?_⟩
      have u6 := TabG.ex (TabG.ex u4 e5) e6
      have t6 := TabG.ex (TabG.ex x4.1 e5) e6
      rw [hsh] at p6
      refine ⟨k, f0, l, .ref q, rfl, k2, k8, hfl, by omega, ShIn.of h6 p6, u6, fun H7 x7 => kk H7 ⟨?_, x7.1, fun b o n1 n2 hb => ?_⟩⟩
      · exact TabG.exT t6 x7 nTU
      · exact x7.2 b o n2 (e6 _ _ (e5 _ _ (x4.2 b o n1 (e13 _ _ hb))))
    cases la with
    | none =>
      have l0 : l = 0 := hla.mp rfl
      subst l0
      refine ⟨_, rfl, rfl, _, rfl, ite2 (fun _ => ⟨_, rfl, _, rfl, ite2 (fun z => nomatch z) fun _ => ?_⟩) fun z => absurd (by simp) z⟩
      exact ⟨_, rfl, _, _, rfl, rfl, _, rfl, ite2 (fun z => absurd (of_decide_eq_true z) (by simp)) fun _ => fin H4 (Ex.refl H4)⟩
    | some n =>
      have l0 : l ≠ 0 := fun z => nomatch hla.mpr z
      refine ⟨_, rfl, rfl, _, rfl, ite2 (fun z => absurd z (by simp; omega)) fun _ => ?_⟩
      refine ⟨_, rfl, _, _, rfl, rfl, _, rfl, ite2 (fun _ => ?_) fun z => absurd (decide_eq_true (show (0 : Int) < (l : Int) by omega)) z⟩
      exact en rfl H4 (Ex.refl H4) _ fun H5 e5 => ⟨true, rfl, ite2 (fun z => nomatch z) fun _ => fin H5 e5⟩
end
end K13
set_option Elab.async false
set_option linter.all false
set_option maxRecDepth 100000
set_option maxHeartbeats 4000000
namespace K13
open PySem PySem.Spec PyProof.Rows L2 GxR Pu Evl Sh Sv
/-- laid, last stamp, spans -/
abbrev St3 := Nat × Option Nat × List S5
/-- a row of a deed: a letting go, or a laying -/
def Step (k : Nat) (r : Option Nat × Int) (s t : St3) : Prop := s.2.2.length ≤ 2000 ∧ match r.1 with
  | none => ∃ b : Nat, r.2 = (b : Int) ∧ t = (s.1, s.2.1, stay s.2.2 b)
  | some st => ∃ L', (∀ n, s.2.1 = some n → n < st) ∧ -1000000 ≤ r.2 ∧ r.2 ≤ 1000000 ∧ Rl k (s.2.2 ++ [rowS s.1 r.2]) L' ∧ t = (s.1 + 1, some st, L')
def Run (k : Nat) (R : List (Option Nat × Int)) (t : St3) : Prop := ∃ g : Nat → St3, g 0 = (0, none, []) ∧ g R.length = t ∧ ∀ i r, R[i]? = some r → Step k r (g i) (g (i + 1))
theorem Run.nil {k : Nat} : Run k [] (0, none, []) := ⟨fun _ => (0, none, []), rfl, rfl, fun i r h => by cases h⟩
theorem Run.snoc {k : Nat} {R : List (Option Nat × Int)} {r : Option Nat × Int} {s t : St3} (h : Run k R s) (st : Step k r s t) : Run k (R ++ [r]) t := by
  obtain ⟨g, g0, g1, g2⟩ := h
  refine ⟨fun i => if i ≤ R.length then g i else t, by show (if 0 ≤ R.length then g 0 else t) = _; rw [if_pos (Nat.zero_le _)]; exact g0, ?_, fun i q hq => ?_⟩
  · show (if (R ++ [r]).length ≤ R.length then _ else t) = t
    rw [if_neg (by rw [List.length_append, List.length_singleton]; omega)]
  · have il : i < (R ++ [r]).length := (List.getElem?_eq_some_iff.mp hq).1
    rw [List.length_append, List.length_singleton] at il
    show Step k q (if i ≤ R.length then g i else t) (if i + 1 ≤ R.length then g (i + 1) else t)
    rw [if_pos (by omega)]
    by_cases c : i + 1 ≤ R.length
    · rw [if_pos c]
      rw [List.getElem?_append_left (by omega)] at hq
      exact g2 i q hq
    · rw [if_neg c]
      have e : i = R.length := by omega
      subst e
      rw [List.getElem?_append_right (Nat.le_refl _), Nat.sub_self] at hq
      cases hq
      rw [g1]
      exact st
/-- a row of deeds, a tuple -/
def RowT (H : Hp) (r : Option Nat × Int) (v : V) : Prop := ∃ b, v = .ref b ∧ H b = some (.tup [nonV r.1, .int r.2])
def spLaidAll (K : PySem.W.Frag) : Sp := fun vs H Q _ => ∃ (k : Nat) (e : Addr) (R : List (Option Nat × Int)) (xs : List V) (t : St3), vs = [.int (k : Int), .ref e] ∧ 2 ≤ k ∧ k ≤ 8 ∧ SqE K H e xs ∧ Paired (RowT H) R xs ∧ R.length ≤ 40000 ∧ Run k R t ∧
  ∀ u H', Ex H H' → StT H' t.1 t.2.1 t.2.2 u → Q u H'
section
variable {P : Program} {w : World} {K : PySem.W.Frag} {mg : Str → Option Value} {base : Heap} {σ : L2.St} {H H' : Hp}
variable {fNK fES fLG fLa : Addr} {dNK dES dLG dLa : FuncData}
theorem RowT.ex {r : Option Nat × Int} {v : V} (h : RowT H r v) (e : Ex H H') : RowT H' r v := by
  obtain ⟨b, rfl, q⟩ := h
  exact ⟨b, rfl, e _ _ q⟩
theorem ok_laid_all {f : Addr} {fd : FuncData} (F : Fun K "laid_all" "laid_all" sLaidAll f fd) (F1 : Fns K mg "need_keep" ["keep"] sNeedKeep fNK dNK) (G1 : FnOk P w K mg base CX0 3 fNK dNK ["keep"] (spV pKeep)) (F2 : Fns K mg "empty_store" [] sEmptyStore fES dES) (G2 : FnOk P w K mg base CX0 1 fES dES [] spEmpty)
    (F3 : Fns K mg "let_go" ["store", "below"] sLetGo fLG dLG) (G3 : FnOk P w K mg base CX0 4 fLG dLG ["store", "below"] spLetGo) (F4 : Fns K mg "lay" ["store", "keep", "stamp", "value"] sLay fLa dLa) (G4 : FnOk P w K mg base CX0 7 fLa dLa ["store", "keep", "stamp", "value"] (spLay Rl)) :
    FnOk P w K mg base CX0 8 f fd ["keep", "rows"] (spLaidAll K) := by
  refine F.ok scLaidAll (fun vs H Q E h => ?_) (fun cdv A outer s H vs Q E hr h => ?_)
  · obtain ⟨k, e, R, xs, t, rfl, _⟩ := h
    rfl
  · obtain ⟨k, e, R, xs, t, rfl, k2, k8, he, hw, hl, ⟨g, g0, g1, g2⟩, kk⟩ := h
    refine ⟨_, pss_cons (ps_expr (pe_call G1 (hr.mono (by decide)) (by rfl) F1.mg F1.fn.kp F1.bd .nil pass0 (pa_cons (pv 0) pa_nil)))
      (pss_cons (ps_set (i := 2) scLaidAll.nd rfl (.inl rfl) (pe_call0 G2 (hr.mono (by decide)) (by rfl) F2.mg F2.fn.kp F2.bd .nil pass0))
      (pss_cons (ps_for PassesOwn.never rfl (pi_seq (pv 1)) (pg_tup rfl (pgs_cons (pg_name (i := 3) scLaidAll.nd rfl (.inl rfl)) (pgs_cons (pg_name (i := 4) scLaidAll.nd rfl (.inl rfl)) pgs_nil)))
        (pss_one (ps_set (i := 2) scLaidAll.nd rfl (.inl rfl) (pe_ifExp (pt_cmp (pc_isN (pv 3))) (pe_call G3 (hr.mono (by decide)) (by rfl) F3.mg F3.fn.kp F3.bd .nil pass0 (pa_cons (pv 2) (pa_cons (pv 4) pa_nil)))
          (pe_call G4 hr (by rfl) F4.mg F4.fn.kp F4.bd .nil pass0 (pa_cons (pv 2) (pa_cons (pv 0) (pa_cons (pv 3) (pa_cons (pv 4) pa_nil)))))))))
      (pss_one (ps_ret (pv 2))))), ?_⟩
    refine q_drop (v := .non) (ev_call (ea_cons (ev_var rfl) ea_nil) (spV.use fun H1 _ => ⟨k, rfl, by omega, by omega, rfl⟩)) fun H1 e1 => ?_
    refine ⟨rfl, fun u H2 e2 h2 => ?_⟩
    have e12 := e1.trans e2
    have hw2 := Paired.mapP hw fun _ _ h => h.ex e12
    have hxl : R.length = xs.length := Paired.length hw
    refine ⟨.ref e, rfl, e, xs, rfl, SqE.ex he e12, fun J Gd wk hG => for_it wk (fun i σ' H' => ∃ y u y3 y4, σ' = [some (.int (k : Int)), y, some u, y3, y4] ∧ Ex H2 H' ∧ StT H' (g i).1 (g i).2.1 (g i).2.2 u) ⟨some (.ref e), u, none, none, rfl, Ex.refl H2, by rw [g0]; exact h2⟩ (fun i σ' H' _ p => ?_) ?_ ?_⟩
    · obtain ⟨_, _, _, _, _, ex, _⟩ := p
      exact hG H' ex
    · intro i x σ' Ha Hb hi hPv hy
      obtain ⟨y, u, y3, y4, rfl, ex, hu⟩ := hPv
      obtain ⟨rfl, hx⟩ := hy
      obtain ⟨r, hr1, hp⟩ := Paired.atR hw2 hx
      obtain ⟨b, rfl, hb⟩ := hp.ex ex
      have stp := g2 i r hr1
      obtain ⟨r1, r2⟩ := r
      obtain ⟨sl, stp⟩ := stp
      refine ⟨b, _, rfl, SqT.of hb, rfl, _, _, rfl, _, _, rfl, rfl, ?_⟩
      cases r1 with
      | none =>
        obtain ⟨bn, rfl, e5⟩ := stp
        refine ⟨_, rfl, _, rfl, ite2 (fun _ => ?_) fun z => absurd (by simp [nonV]) z⟩
        refine ⟨_, rfl, _, rfl, _, _, _, _, bn, rfl, hu.h, sl, fun u2 H3 e3 h3 => ?_⟩
        refine ⟨_, u2, _, _, rfl, ex.trans e3, ?_⟩
        rw [e5]
        exact h3
      | some st =>
        obtain ⟨L', l1, b1, b2, hR, e5⟩ := stp
        refine ⟨_, rfl, _, rfl, ite2 (fun z => absurd z (by simp [nonV])) fun _ => ?_⟩
        refine ⟨_, rfl, _, rfl, _, rfl, _, rfl, _, _, _, L', u, k, st, r2, rfl, hu.h, sl, k2, k8, l1, b1, b2, hR, fun u2 H3 e3 h3 => ?_⟩
        refine ⟨_, u2, _, _, rfl, ex.trans e3, ?_⟩
        rw [e5]
        exact h3
    · intro σ' H' p1
      obtain ⟨y, u, y3, y4, rfl, ex, hu⟩ := p1
      rw [← hxl, g1] at hu
      exact ⟨_, rfl, kk u H' (e12.trans ex) hu⟩
end
end K13
set_option Elab.async false
set_option linter.all false
set_option maxRecDepth 100000
set_option maxHeartbeats 1000000
namespace K13
open PySem PySem.Spec PyProof.Rows L2 GxR Pu Evl Sh Sv
/-- what the law holds, by numbers -/
structure D9 where
  k : Nat
  f : Nat
  v : List Int
  la : Option Nat
  R : List (Option Nat × Int)
def D9.S (d : D9) : List (Nat × Nat) := shp d.k d.f d.v.length
def D9.L (d : D9) : List S5 := d.S.map (spn d.v)
/-- the numbers of it -/
structure Num (d : D9) (i : Nat) : Prop where
  k2 : 2 ≤ d.k
  k8 : d.k ≤ 8
  fl : d.f ≤ d.v.length
  vok : Vok d.v
  run : Run d.k d.R (d.v.length, d.la, d.L)
  nla : d.la = none ↔ d.v.length = 0
  lab : ∀ n, d.la = some n → n ≤ 5 * i
  li : d.v.length ≤ i
  ri : d.R.length ≤ i
theorem stay_map (S : List (Nat × Nat)) (v : List Int) (b : Nat) : stay (S.map (spn v)) b = (gone b S).map (spn v) := by
  unfold stay gone
  rw [List.filter_map]
  congr 1
  refine List.filter_congr fun p _ => ?_
  show decide (((p.1 : Nat) : Int) + (p.2 : Nat) > (b : Int)) = decide (b < p.1 + p.2)
  exact decide_eq_decide.mpr (by omega)
theorem stay_len (L : List S5) (b : Nat) : (stay L b).length ≤ L.length := List.length_filter_le ..
theorem D9.Sl {d : D9} {i : Nat} (n : Num d i) : d.S.length ≤ d.v.length := Nat.le_trans (shp_len n.k2) (Nat.sub_le _ _)
theorem D9.Ll {d : D9} : d.L.length = d.S.length := List.length_map ..
/-- the eldest row behind a letting go -/
def D9.f' (d : D9) (b : Nat) : Nat := firstOf (gone b d.S) d.v.length
theorem D9.gone {d : D9} {i : Nat} (n : Num d i) (b : Nat) : d.f' b ≤ d.v.length ∧ gone b d.S = shp d.k (d.f' b) d.v.length := gone_shp n.k2 n.fl
theorem Num.go {d d' : D9} {i b : Nat} (n : Num d i) (e1 : d'.k = d.k) (e2 : d'.f = d.f' b) (e3 : d'.v = d.v) (e4 : d'.la = d.la) (e5 : d'.R = d.R ++ [(none, (b : Int))]) : Num d' (i + 1) := by
  obtain ⟨g1, g2⟩ := D9.gone n b
  have eL : d'.L = stay d.L b := by
    unfold D9.L D9.S
    rw [stay_map, e1, e2, e3]
    show List.map _ (shp d.k (d.f' b) d.v.length) = _
    rw [← g2]
    rfl
  refine ⟨by rw [e1]; exact n.k2, by rw [e1]; exact n.k8, by rw [e2, e3]; exact g1, by rw [e3]; exact n.vok, ?_, by rw [e3, e4]; exact n.nla, fun m hm => ?_, by rw [e3]; have := n.li; omega, ?_⟩
  · rw [e1, e3, e4, e5, eL]
    refine n.run.snoc ⟨?_, b, rfl, rfl⟩
    show d.L.length ≤ 2000
    rw [D9.Ll]
    have := D9.Sl n
    have := n.vok.1
    omega
  · rw [e4] at hm
    have := n.lab m hm
    omega
  · rw [e5, List.length_append, List.length_singleton]
    have := n.ri
    omega
theorem vok_snoc {v : List Int} {x : Int} (h : Vok v) (hl : v.length < 1000) (x1 : -1000000 ≤ x) (x2 : x ≤ 1000000) : Vok (v ++ [x]) := by
  refine ⟨by rw [List.length_append, List.length_singleton]; omega, fun y hy => ?_⟩
  rcases List.mem_append.mp hy with q | q
  · exact h.2 y q
  · rw [List.mem_singleton.mp q]; exact ⟨x1, x2⟩
theorem rl_lay {d : D9} {i : Nat} {x : Int} (n : Num d i) (hv : Vok (d.v ++ [x])) : Rl d.k (d.L ++ [rowS d.v.length x]) ((shp d.k d.f (d.v.length + 1)).map (spn (d.v ++ [x]))) := by
  have fl := n.fl
  refine ⟨d.f, d.v.length - d.f, d.v ++ [x], n.k2, n.k8, hv, by rw [List.length_append, List.length_singleton]; omega, ?_, ?_⟩
  · have e : lvl d.f (counts d.k (d.v.length - d.f)) 1 [] = d.S ++ [(d.v.length, 1)] := by
      unfold lvl
      rw [sh_bump, List.append_nil, counts_tot n.k2, show d.f + (d.v.length - d.f) = d.v.length by omega]
      rfl
    rw [e, List.map_append]
    congr 1
    · unfold D9.L
      refine List.map_congr_left fun p hp => (spn_snoc ?_).symm
      exact (shp_mem n.k2 fl hp).2.1
    · show [rowS d.v.length x] = [spn (d.v ++ [x]) (d.v.length, 1)]
      rw [spn_last]
  · unfold shp
    rw [show d.v.length + 1 - d.f = d.v.length - d.f + 1 by omega]
theorem Num.lay {d d' : D9} {i st : Nat} {x : Int} (n : Num d i) (hi : i < 60) (x1 : -1000000 ≤ x) (x2 : x ≤ 1000000) (h1 : ∀ m, d.la = some m → m < st) (h2 : st ≤ 5 * (i + 1)) (e1 : d'.k = d.k) (e2 : d'.f = d.f) (e3 : d'.v = d.v ++ [x]) (e4 : d'.la = some st) (e5 : d'.R = d.R ++ [(some st, x)]) : Num d' (i + 1) := by
  have li := n.li
  have fl := n.fl
  have hv := vok_snoc n.vok (by omega) x1 x2
  have hvl : (d.v ++ [x]).length = d.v.length + 1 := by rw [List.length_append, List.length_singleton]
  have eL : d'.L = (shp d.k d.f (d.v.length + 1)).map (spn (d.v ++ [x])) := by
    unfold D9.L D9.S
    rw [e1, e2, e3, hvl]
  refine ⟨by rw [e1]; exact n.k2, by rw [e1]; exact n.k8, by rw [e2, e3, hvl]; omega, by rw [e3]; exact hv, ?_, by rw [e3, e4, hvl]; exact ⟨(fun z => nomatch z), (fun z => by omega)⟩, fun m hm => ?_, by rw [e3, hvl]; omega, ?_⟩
  · rw [e1, e3, e4, e5, eL, hvl]
    refine n.run.snoc ⟨?_, _, h1, x1, x2, rl_lay n hv, rfl⟩
    show d.L.length ≤ 2000
    rw [D9.Ll]
    have := D9.Sl n
    omega
  · rw [e4] at hm
    cases hm
    exact h2
  · rw [e5, List.length_append, List.length_singleton]
    have := n.ri
    omega
end K13
set_option Elab.async false
set_option linter.all false
set_option maxRecDepth 100000
set_option maxHeartbeats 4000000
namespace Pu
open PySem PySem.Spec PyProof.Rows L2 GxR
section
variable {P : Program} {w : World} {K : PySem.W.Frag} {mg mb : Str → Option Value} {fa a c : Addr} {cs : List (Addr × Addr)} {fd : FuncData} {N : List Str} {x : Str} {st : Stmt} {s₁ : Shared} {vs : List Value} {ns : List Int}
/-- what a law's body is asked: from any base and state, at the caller that the claim names -/
def BodyOkC (P : Program) (w : World) (K : PySem.W.Frag) (mg : Str → Option Value) (cs : List (Addr × Addr)) (N : List Str) (st : Stmt) (fa a : Addr) (ns : List Int) (cdv : Value) : Prop :=
  ∀ (base : Heap) (s : Shared) (H : Hp), L2.Mod K mg base → (∀ p ∈ cs, TabB base mg p.1 p.2) → (∀ p ∈ cs, H p.2 = some (.tbl #[])) → SqL K H a (ns.map V.int) →
    ∃ t, PSs (cxOf CX0 P w K mg base N "law" (defScope st) fa cdv callerA [] s H E0).nox (defBody st) t ∧ t { nx := fun _ _ => False, rt := fun v _ => v = .bl true } (start N [.ref a]) H
/-- from a heap that is told by H -/
theorem law_fromC {H : Hp} (Fn : FunC K "law" "law" st fa fd c) (S : FnScope N [x] (defScope st)) (hbind : ∀ (s : Shared) (u : Value), BindsTo s fd ⟨[u], []⟩ [(x, u)]) (hr : Room 9 callerA)
    (B : BodyOkC P w K mg cs N st fa a ns (.ref c)) (base : Heap) (M : L2.Mod K mg base) (hT : ∀ p ∈ cs, TabB base mg p.1 p.2) (hH : ∀ p ∈ cs, H p.2 = some (.tbl #[])) (hS : SqL K H a (ns.map V.int))
    (e0 : Env0 P w K mg base callerA [] s₁ H) :
    codeAny (model P w) callerA (.call (.ref fa) ⟨[.ref a], []⟩) (fun r s' => ∃ H', r = .ok (.ret (.bool true)) ∧ s'.os = s₁.os ∧ AllBare s'.gens ∧ Un [] [] H H' s₁.heap s'.heap ∧ HOk P w H' s'.heap) s₁ := by
  obtain ⟨oc, od, kV, doc, pm, an, ct, osl, rfl, lk, hcd⟩ := Fn.ex
  obtain ⟨t, ht, hq⟩ := B base s₁ H M hT hH hS
  have KX : K.In s₁.heap := M.kin.keeps fun b o e => (e0.bs b o e).1
  have lim : s₁.heap.NoLimit := M.nolimit.keeps fun b o e => (e0.bs b o e).1
  have kinds : ∀ y ∈ [x].zip [Value.ref a], (defScope st).names.lookup y.1 = some .local ∨ ((defScope st).names.lookup y.1 = some .cell ∧ ((cellsFrom (s₁.heap.objs.size + 1) (defScope st).names []).lookup y.1).isSome = true) := fun ⟨n, v⟩ hy => by
    rcases S.par n (List.of_mem_zip hy).1 with q | q
    · exact .inl q
    · exact .inr ⟨q, PySem.W.cellsFrom_some _ _ _ (.inl q)⟩
  refine codeAny_call_function hr.depth (KX _ _ lk) rfl S.co S.gen rfl (PySem.W.codeRec_of KX hcd) (hbind s₁ (.ref a) _ _ _ _ ?_)
  refine wpAny_newFunctionEnv_cells S.kind kinds fun env he s1 X => ?_
  subst he
  refine ⟨lim.keeps X.toInCall.keep, codeAny_func ?_⟩
  have I : Inv (cxOf CX0 P w K mg base N "law" (defScope st) fa (.ref c) callerA [] s₁ H E0) [] (start N [.ref a]) H s1 := inv_start (ps := [x]) (us := [.ref a]) S hr.hd e0 rfl (.cons rfl .nil) X
  refine wpAny_mono (ht.run [] s1 (start N [.ref a]) H _ (I.wish _) hq) (fun fl s' hs => ?_) fun e s' hs => hs.elim
  cases fl with
  | ret u =>
    obtain ⟨v, σ', H', J, rv, q⟩ := hs
    have q2 : v = .bl true := q
    subst q2
    obtain rfl : u = Value.bool true := rv
    exact ⟨H', rfl, J.os, J.bare, J.base, J.hok⟩
  | next =>
    obtain ⟨_, _, _, q⟩ := hs
    exact q.elim
  | brk =>
    obtain ⟨_, _, _, q⟩ := hs
    exact False.elim q
  | cont =>
    obtain ⟨_, _, _, q⟩ := hs
    exact False.elim q

/-- the whole end: the heap as it stands behind the top -/
theorem law_endC (KX : K.In s₁.heap) (hns : s₁.heap.Ns mainGlobals mg) (hb : s₁.heap.Ns builtinsNs mb) (hbb : ∀ x : Str, x ≠ "__name__" → mb x = bootBuiltins x) (hlim : s₁.heap.NoLimit) (hg : s₁.gens = #[])
    (hcs : Bare cs K s₁.heap) (hbm : BltMod mg s₁.heap)
    (ha : s₁.heap.get? a = some { cls := .type "list", data := .seq vs.toArray }) (hi : IntsAre vs ns) (hl : ns.length ≤ sizeLine)
    (Fn : FunC K "law" "law" st fa fd c) (S : FnScope N [x] (defScope st)) (hbind : ∀ (s : Shared) (u : Value), BindsTo s fd ⟨[u], []⟩ [(x, u)]) (hr : Room 9 callerA) (B : BodyOkC P w K mg cs N st fa a ns (.ref c)) :
    SaysTrue P w fa a s₁ := by
  have hT := fun p hp => (hcs p hp).1.1
  have nT := fun p hp => (hcs p hp).1.2
  have C := fun p hp => (hcs p hp).2
  -- the tables, the script
  let Ts := cs.map (·.2)
  have tab : ∀ b, b ∈ Ts → s₁.heap.get? b = some { cls := .none, data := .fields #[] } := fun b h => by
    obtain ⟨p, hp, rfl⟩ := List.mem_map.mp h
    exact hT p hp
  have inT : ∀ p ∈ cs, p.2 ∈ Ts := fun p hp => List.mem_map.mpr ⟨p, hp, rfl⟩
  have aNot : a ∉ Ts := fun z => by
    have q := (tab a z).symm.trans ha
    cases congrArg Obj.data (Option.some.inj q)
  have rv := vals_ints hi
  have frame : ∀ (u : Option HO), (u = none ∨ u = some (.frz { cls := .type "list", data := .seq vs.toArray } (.lst (ns.map V.int)))) → (u ≠ none → K.lookup a = none) →
      SqL K (fun b => if b = a then u else if b ∈ Ts then some (.tbl #[]) else none) a (ns.map V.int) →
      SaysTrue P w fa a s₁ := by
    intro u hu hKa hS
    generalize hHdef : (fun b => if b = a then u else if b ∈ Ts then some (HO.tbl #[]) else none : Hp) = H at hS
    have Ha : H a = u := by rw [← hHdef]; exact if_pos rfl
    have HT : ∀ b, b ∈ Ts → H b = some (.tbl #[]) := fun b h => by
      have nb : b ≠ a := fun z => aNot (z ▸ h)
      rw [← hHdef]
      exact (if_neg nb).trans (if_pos h)
    have HN : ∀ b, b ≠ a → b ∉ Ts → H b = none := fun b h1 h2 => by
      rw [← hHdef]
      exact (if_neg h1).trans (if_neg h2)
    have ok : HOk P w H s₁.heap := fun b o e => by
      by_cases h1 : b = a
      · subst h1
        rw [Ha] at e
        rcases hu with z | z
        · rw [z] at e; cases e
        · rw [z] at e
          cases e
          exact ⟨ha, by rw [List.length_map]; exact hl, vs, _, rv, ha⟩
      · by_cases h2 : b ∈ Ts
        · rw [HT b h2] at e
          cases e
          exact tab b h2
        · rw [HN b h1 h2] at e; cases e
    -- what is neither a list nor an empty table is not tracked
    have plain : ∀ {b : Addr} {o : Obj}, s₁.heap.get? b = some o → (∀ q n, o.data ≠ .seq q n) → o.data ≠ .fields #[] → H b = none := fun {b o} e h1 h2 => by
      refine HN b (fun z => ?_) fun z => ?_
      · rw [z, ha] at e
        cases e
        exact h1 _ _ rfl
      · rw [tab b z] at e
        cases e
        exact h2 rfl
    have dct : ∀ {b : Addr} {o : Obj} {es : Array DictEntry} {ep : Nat}, s₁.heap.get? b = some o → o.data = .dict es ep → H b = none := fun e d =>
      plain e (fun q n z => by rw [d] at z; cases z) fun z => by rw [d] at z; cases z
    have bg : ∀ {b : Addr} {o : Obj}, s₁.heap.get? b = some o → H b = none → (hidT s₁.heap H).get? b = some o := fun e n => hidT_get e n
    have nsB : ∀ {b : Addr} {m : Str → Option Value}, s₁.heap.Ns b m → (hidT s₁.heap H).Ns b m := fun ⟨o, es, ep, e, d, r⟩ => ⟨o, es, ep, bg e (dct e d), d, r⟩
    have KB : K.In (hidT s₁.heap H) := fun b o e => by
      refine bg (KX b o e) ?_
      by_cases h1 : b = a
      · rw [h1, Ha]
        rcases hu with z | z
        · exact z
        · have := hKa (by rw [z]; simp)
          rw [← h1, e] at this
          cases this
      · refine HN b h1 fun h2 => ?_
        obtain ⟨p, hp, ep⟩ := List.mem_map.mp h2
        rw [← ep, nT p hp] at e
        cases e
    have M : L2.Mod K mg (hidT s₁.heap H) := ⟨KB, nsB hns, ⟨mb, nsB hb, hbb⟩, let ⟨mc, h1, h2⟩ := hlim; ⟨mc, nsB h1, h2⟩⟩
    have TB : ∀ p ∈ cs, TabB (hidT s₁.heap H) mg p.1 p.2 := fun p hp => by
      have hTp := hT p hp
      refine ⟨?_, ?_, fun z => ?_⟩
      · obtain ⟨o, us, file, tf, flags, tg, inF, text, tt, e1, r1, r2, r3, r⟩ := C p hp
        refine ⟨o, us, file, tf, flags, tg, inF, text, tt, bg e1 (plain e1 (fun q n z => ?_) fun z => ?_), r1, r2, r3, r⟩
        · rw [r2] at z; cases z
        · rw [r2] at z
          cases z
          simp at r3
      · obtain ⟨bm, ob, b1, b2, b3, b4, b5, b6⟩ := hbm
        have nG : bm ≠ mainGlobals := fun q => by
          obtain ⟨o, es, ep, e, hd, _⟩ := hns
          rw [q, e] at b3
          cases b3
          rw [hd] at b6
          cases b6
        have nP : bm ≠ p.2 := fun q => by
          rw [q, hTp] at b3
          cases b3
          cases b6
        exact ⟨bm, ob, b1, b2, nG, nP, bg b3 (plain b3 (fun q n z => by rw [b6] at z; cases z) fun z => by rw [b6] at z; cases z), b4, b5, b6⟩
      · obtain ⟨o, es, ep, e, hd, _⟩ := hns
        rw [z, hTp] at e
        cases e
        cases hd
    have e0 : Env0 P w K mg (hidT s₁.heap H) callerA [] s₁ H :=
      ⟨rfl, M, fun b o e => of_hidT e, Nat.le_of_eq (hidT_size _ _), trivial, fun b hb => absurd (show b ∈ ([] : List Addr) from hb) List.not_mem_nil, ok, .of_eq hg⟩
    refine codeAny_mono (law_fromC Fn S hbind hr B _ M TB (fun p hp => HT _ (inT p hp)) hS e0) fun r s' h => ?_
    obtain ⟨H', rfl, os, bare, un, ok'⟩ := h
    have same : ∀ b o, b ∉ Ts → s₁.heap.get? b = some o → s'.heap.get? b = some o := fun b o nb e => by
      by_cases h1 : b = a
      · rcases hu with z | z
        · exact un.keep b o e (by rw [h1, Ha, z]) (by simp) (by simp)
        · have z1 : H a = some (.frz { cls := .type "list", data := .seq vs.toArray } (.lst (ns.map V.int))) := Ha.trans z
          obtain ⟨e2, _⟩ := ok' a _ (un.frzs a _ _ z1)
          rw [h1] at e ⊢
          rw [ha] at e
          cases e
          exact e2
      · exact un.keep b o e (HN b h1 nb) (by simp) (by simp)
    have grown : ∀ b, b ∈ Ts → ∃ more : Array Value, s'.heap.get? b = some { cls := .none, data := .fields more } := fun b h => by
      obtain ⟨more, z⟩ := un.tbls b #[] (HT b h)
      exact ⟨_, ok' b _ z⟩
    refine ⟨rfl, ⟨fun b o e => ?_, fun b o e => ?_⟩, os, bare⟩
    · by_cases h : b ∈ Ts
      · obtain ⟨more, hm⟩ := grown b h
        obtain ⟨p, hp, rfl⟩ := List.mem_map.mp h
        rw [hT p hp] at e
        cases e
        exact .inr (.inl ⟨((C p hp).tab (hT p hp)).isCodeTable, rfl, #[], more, rfl, by rw [Array.empty_append]; exact hm⟩)
      · exact .inl (same b o h e)
    · by_cases h : b ∈ Ts
      · obtain ⟨more, hm⟩ := grown b h
        exact ⟨_, hm⟩
      · exact ⟨o, same b o h e⟩
  cases hk : K.lookup a with
  | some o =>
    have e := KX a o hk
    rw [ha] at e
    cases e
    refine frame none (.inl rfl) (fun h => (h rfl).elim) (.inr ⟨_, vs.toArray, _, hk, rfl, rfl, rfl, ?_, by simpa using rv⟩)
    rw [List.size_toArray, hi.length]
    exact hl
  | none => exact frame _ (.inr rfl) (fun _ => hk) (.inl (.inr ⟨_, if_pos rfl⟩))
end
end Pu
set_option Elab.async false
set_option linter.all false
set_option maxRecDepth 100000
set_option maxHeartbeats 4000000
namespace Pu
open PySem PySem.Spec PyProof.Rows L2 GxR Evl
/-- x is True, x a whole number, None or a truth -/
def isTr : V → Option Bool
  | .int _ => some false
  | .non => some false
  | .bl b => some b
  | _ => none
theorem op_isTr {X : Cx} : OpR X (compareOp .Is) (fun x y H Q => ∃ b, isTr x = some b ∧ y = .bl true ∧ Q (.bl b) H) := by
  intro pins s σ H x y v u Q I rx ry h
  obtain ⟨b, hb, rfl, q⟩ := h
  cases (show u = Value.bool true from ry)
  have no : ∀ {v : Value}, plainIs v (.bool true) = true → v ≠ .bool true → Q (.bl false) H → wpAny (model X.prog X.w) X.A (compareOp .Is v (.bool true)) (EP X pins σ Q) X.xe s := fun p n q => wpAny_is_other p n ⟨.bl false, H, I, rfl, q⟩
  cases x with
  | int i =>
    obtain ⟨t, rfl⟩ := rx
    cases hb
    exact no rfl (fun z => nomatch z) q
  | non =>
    cases (show v = Value.none from rx)
    cases hb
    exact no rfl (fun z => nomatch z) q
  | bl a =>
    cases (show v = Value.bool a from rx)
    cases hb
    cases b with
    | true => exact wpAny_is_self rfl ⟨.bl true, H, I, rfl, q⟩
    | false => exact no rfl (fun z => nomatch z) q
  | _ => cases hb
end Pu
set_option Elab.async false
set_option linter.all false
set_option maxRecDepth 100000
set_option maxHeartbeats 4000000
namespace Pu
open PySem PySem.Spec PyProof.Rows L2 GxR Evl
/-- how a flat value is shown -/
def shownS : V → Option Str
  | .non => some "None"
  | .bl b => some (if b then "True" else "False")
  | .int i => some (toString i)
  | .str x => some (reprText x)
  | _ => none
def okS : V → Bool
  | .int i => decide (i.natAbs ≤ 1000000000)
  | .str x => decide ((reprText x).length ≤ 1000)
  | _ => true
/-- a value that can be shown, so -/
def Shown (K : PySem.W.Frag) (H : Hp) (x : V) (s : Str) : Prop := (shownS x = some s ∧ okS x = true) ∨ ∃ d, Dp K H x d ∧ isDisplay d = true ∧ d.showable = true ∧ d.hasDict = false ∧ d.depth ≤ 60 ∧ d.shown.length ≤ sizeLine ∧ d.shown = s
def rReprS (K : PySem.W.Frag) : List V → Hp → VK → Prop := fun vs H Q => ∃ x s, vs = [x] ∧ Shown K H x s ∧ Q (.str s) H
theorem cr_reprS {X : Cx} (hu : X.A.units + 64 < cLine) (hg : X.A.guards = some []) : CallR X (.builtin "repr") (rReprS X.K) := by
  intro pins s σ H vs us Q I r h
  obtain ⟨x, t, rfl, hx, q⟩ := h
  rcases hx with ⟨h1, h2⟩ | ⟨d, hd, hi, hs, hn, hz, hl, rfl⟩
  · obtain ⟨u, rfl, rv⟩ := vals1 r
    cases x with
    | non =>
      cases (show u = Value.none from rv)
      cases h1
      exact PySem.P.repr_of_none ⟨.str _, H, I.tok _, ⟨_, rfl⟩, q⟩
    | bl b =>
      cases (show u = Value.bool b from rv)
      cases h1
      exact PySem.P.repr_of_bool ⟨.str _, H, I.tok _, ⟨_, rfl⟩, q⟩
    | int i =>
      obtain ⟨t, rfl⟩ := rv
      cases h1
      have h3 : i.natAbs ≤ 1000000000 := of_decide_eq_true h2
      exact PySem.P.repr_of_int (Nat.lt_of_lt_of_le (PySem.Flt.log2_lt_of (by decide) (Nat.lt_of_le_of_lt h3 (by decide : 1000000000 < 2 ^ 40))) (by decide)) ⟨.str _, H, I.tok _, ⟨_, rfl⟩, q⟩
    | str y =>
      obtain ⟨t, rfl⟩ := rv
      cases h1
      have h3 : (reprText y).length ≤ 1000 := of_decide_eq_true h2
      exact PySem.P.repr_of_str ⟨.str _, H, I.tok _, ⟨_, rfl⟩, q⟩ (Nat.le_trans h3 (by decide))
    | _ => cases h1
  · exact cr_repr hu hg pins s σ H _ us Q I r ⟨x, d, rfl, hd, hi, hs, hn, hz, hl, q⟩
end Pu
set_option Elab.async false
set_option linter.all false
set_option maxRecDepth 100000
set_option maxHeartbeats 4000000
namespace Pu
open PySem PySem.Spec PyProof.Rows L2
/-- isinstance(e, c), e the exception that the suite holds, with its dict -/
def rIsD (K : PySem.W.Frag) (cls : Value) (d : Option Addr) (a : Addr) : List V → Hp → VK → Prop := fun xs H Q => ∃ (D dd : Addr) (c : V) (cv : Value) (b : Bool) (fs : List (Str × V)), cls = .ref D ∧ d = some dd ∧ ExcC K D ∧ xs = [.ref a, c] ∧ H dd = some (.xd fs) ∧ (∀ u, RelV c u → u = cv) ∧ PySem.W.kitOne K (.ref D) cv = some b ∧ Q (.bl b) H
theorem call_isD {X : Cx} {a : Addr} {cls : Value} {d : Option Addr} {oe : Obj} {pn : List (Addr × Obj)} (hz : Zc cls d oe) (hf : ∃ vs, oe.data = .fields vs) : CallR (X.suite a ((a, oe) :: pn)) (.builtin "isinstance") (rIsD X.K cls d a) := by
  intro pins s σ H xs us Q I r h
  obtain ⟨D, dd, c, cv, b, fs, rfl, rfl, C, rfl, hx, hcv, e, q⟩ := h
  rcases r with _ | ⟨rx, _ | ⟨rt, _ | _⟩⟩
  cases rx
  obtain rfl := hcv _ rt
  have hget := (I.pin (a, oe) (List.mem_append.mpr (.inl List.mem_cons_self))).1
  have hd : ObjOk X.prog X.w H s.heap dd (.xd fs) := I.hok dd _ hx
  obtain ⟨mA, hns, _⟩ := hd
  obtain ⟨od, ho, _⟩ := lookIn_ns hns
  obtain ⟨vs, hv⟩ := hf
  have J : PySem.W.InstAt s.heap a oe D (some od) := ⟨hget, hz.1, by unfold PySem.W.notCls; rw [hv] <;> rfl, by rw [hz.2]; exact ho⟩
  have hcl : (PySem.W.clsIn X.K D).isSome = true := by
    obtain ⟨cd, hc, _⟩ := PySem.W.any_some C.hd
    rw [hc]
    rfl
  exact PySem.W.kia_one (PySem.W.kitx_exc hcl C.hg C.hk C.hs C.ha C.hn C.ht C.hm) I.kIn J e (fun z => nomatch z) fun tk => ⟨.bl b, H, I.kept (t' := tk) fun _ _ z => z, rfl, q⟩

/-! ### an error of the package that bears one value -/
/-- what the written part says of the error class at C, whose __init__ sets the field `at` -/
structure RefC (K : PySem.W.Frag) (C fI : Addr) : Prop where
  oex : OexC K C
  ini : PySem.W.findIn K (.ref C) "__init__" = some (some (.ref fI))
  tyI : PySem.W.typeIn K (.ref fI) = some (.type "function")
  xf : XfC K C
  ec : ExcC K C
  no : PySem.W.findIn K (.ref C) "at" = some none
/-- __init__(self, at): self.at = at -/
def spInitAt (C : Addr) : Sp := fun vs H Q _ => ∃ (a : Addr) (v : V), vs = [.ref a, v] ∧ H a = some (exo a C none) ∧ (∀ dx, H dx = none → dx ≠ a → Q .non (upd (upd H dx (exd dx [("at", v)])) a (exo a C (some dx))))
/-- raise C(e): what stands behind it -/
def tRef (C : Addr) (te : TE) (W : WX) : TS := fun _ σ H => te σ H fun v H1 => ∀ d, H1 d = none → W (.ref C) (some d) σ (upd H1 d (.xd [("at", v)]))
theorem exd_none {a dx : Addr} {H : Hp} {u : HO} (ha : H a = none) (hd : H dx = none) (ne : dx ≠ a) (o1 o2 o3 : HO) : upd (del (upd (upd (upd H a o1) dx o2) a o3) a) dx u = upd H dx u := by
  funext b
  by_cases h1 : b = dx
  · rw [h1, upd_same, upd_same]
  · rw [upd_ne h1, upd_ne h1]
    by_cases h2 : b = a
    · rw [h2, del_same, ha]
    · rw [del_ne h2, upd_ne h2, upd_ne h1, upd_ne h2]
/-- a reading that lets what is wanted be weakened -/
theorem pe_up {X : Cx} {e : Expr} {te : TE} (h : PE X e te) : PE X e (fun σ H Q => ∃ Q0, te σ H Q0 ∧ ∀ v H1, Q0 v H1 → Q v H1) :=
  ⟨fun pins s σ H Q I ⟨Q0, h0, k⟩ => thn (h.run pins s σ H Q0 I h0) fun u s1 ⟨v, H1, I1, r, q⟩ => ⟨v, H1, I1, r, k _ _ q⟩⟩
theorem ps_ref {X : Cx} {W : WX} {C fI : Addr} {fd : FuncData} {k : Nat} {x : Str} {e : Expr} {te : TE} {p p1 p2 : Pos} (R : RefC X.K C fI) (F : FnOk X.prog X.w X.K X.mg X.base CX0 k fI fd ["self", "at"] (spInitAt C)) (hr : Room (k + 1) X.A) (hb : Binds X.K fd ["self", "at"] [])
    (hc : X.calm = true) (tk : Takes X W) (hg : Gl X x) (hm : X.mg x = some (.ref C)) (he : PE X e te) (hdb : (x == ("__debug__" : Str)) = false := by decide)
    (h1 : starEach [e] X.env = (false, eval e X.env) :: starEach [] X.env := by rfl) (h2 : (backTo p1 (starEach [] X.env)).any (·.1) = false := by rfl) :
    PS X (.Raise (some (.Call (.Name x p) [e] [] p1)) none p2) (tRef C te W) := by
  refine ⟨fun pins s σ H D I h => (ps_raise hc tk (pmk_oex (ds := []) (dvs := []) R.oex R.ini R.tyI F hr hb .nil pass0 hg hm (pa_cons (pe_up he) pa_nil h1) hdb h1 h2)).run pins s σ H D I ?_⟩
  refine ⟨_, h, fun v H1 q => ⟨by simp, fun a ha => ⟨a, v, rfl, upd_same, fun dx hdx ne => ?_⟩⟩⟩
  have hd1 : H1 dx = none := by rw [upd_ne ne] at hdx; exact hdx
  refine ⟨rfl, dx, _, upd_same, by rw [upd_ne ne, upd_same], hd1, ?_⟩
  rw [exd_none ha hd1 ne]
  exact q dx hd1
end Pu
set_option Elab.async false
set_option linter.all false
set_option maxRecDepth 100000
set_option maxHeartbeats 4000000
namespace Pu
open PySem PySem.Spec PyProof.Rows L2 LamX
/-- all stays but what stands at P -/
def ExP (P : Addr) (H H' : Hp) : Prop := ∀ b o, b ≠ P → H b = some o → H' b = some o
section
variable {X : Cx} {pins : List (Addr × Obj)} {σ : L2.St} {H : Hp} {s : Shared}
/-- a lambda is made; of all that is known but the table at P alone is written -/
theorem lam_new {c P : Addr} {q : Str} {params : Arguments} {body : Expr} {scope : Scope} {pos : Pos} {E : Value → Shared → Prop} {Q : Value → Shared → Prop} (I : Inv X pins σ H s) (TB : LamX.TabB X.base X.mg c P) (hcode : X.env.code = .ref c) (hq : X.env.qual ++ "<lambda>" = q)
    (hT : TabS H P q) (hdef : defaultsOf params X.env = ([], [])) (hfree : ∀ y ∈ scope.names, y.2 = .free → ∃ c, X.env.cells.lookup y.1 = some c)
    (fin : ∀ (f c' : Addr) (pm ctv : Value) (H1 : Hp) (s' : Shared), Inv X pins σ H1 s' → ExP P H H1 → TabS H1 P q → s'.heap.get? f = some (PySem.W.kla_obj "<lambda>" q params body scope (cloFrom X.env.cells scope.names []) pm c' ctv) → H1 f = none → f ∉ frs X.stack → H1 c' = some (CodeO c' q) → Q (.ref f) s') :
    wpAny (model X.prog X.w) X.A (eval (.Lambda params body scope pos) X.env) Q E s := by
  subst hq
  have out : ∀ f, s.heap.objs.size ≤ f → f ∉ frs X.stack := fun f hf z => (List.mem_cons.mp (I.stkSub _ z)).elim (fun e => Nat.lt_irrefl _ (Nat.lt_of_lt_of_le (e ▸ I.lt) hf)) (I.nofs hf)
  have hT0 := hT
  obtain ⟨ps, hP, ht, ha⟩ := hT
  have bP : s.heap.BuiltinsAt X.mg P := TB.bm.keeps I.bk
  have gP : s.heap.get? P = some { cls := .none, data := .fields ps } := I.hok P _ hP
  apply PySem.W.kla_eval hdef
  rcases hc : codeAmong pos ps.toList with _ | cv
  · apply PySem.W.kla_makeFunction (mg := X.mg) (c := c) (P := P) (ps := ps) (closure_ok hfree) I.ok.glob (I.mod.glob.keeps I.bk) hcode (TB.code.keeps I.bk) gP ht hc TB.gP bP
    intro c' ctv h' tk hx hge hlt ⟨c2, oc, vs, t, e2, hoc, hd, hv⟩ htb
    cases e2
    have nC : H c' = none := I.hok.fresh hge
    have nPc : P ≠ c' := ne_of_none hP nC
    have sz : s.heap.objs.size ≤ h'.objs.size := Nat.le_trans hge (Nat.le_of_lt hlt)
    have ex : ExP P H (upd (upd H P (.tbl (ps ++ #[rawInt pos.line, rawInt pos.col, .ref c']))) c' (CodeO c' (X.env.qual ++ "<lambda>"))) := fun b o hb e => by rw [upd_ne (ne_of_none e nC), upd_ne hb]; exact e
    have J := inv_table (t' := tk) (more := #[rawInt pos.line, rawInt pos.col, .ref c']) (h' := h'.push (PySem.W.kla_obj "<lambda>" (X.env.qual ++ "<lambda>") params body scope (cloFrom X.env.cells scope.names []) ((X.mg "__name__").getD .none) c' ctv)) I hP
      (fun b o hb e => Heap.get?_push_of_some _ (hx b o hb e)) (Heap.get?_push_of_some _ htb) hge ⟨oc, vs, t, Heap.get?_push_of_some _ hoc, hd, hv⟩
    refine fin h'.objs.size c' ((X.mg "__name__").getD .none) ctv _ _ J ex ⟨_, by rw [upd_ne nPc, upd_same], ?_, fun p2 cv h2 => ?_⟩ (Heap.get?_push_size _ rfl) ?_ (out _ sz) upd_same
    · rw [Array.toList_append]
      exact PySem.TriplesOk_snoc _ _ _ _ ht
    · rw [Array.toList_append] at h2
      rcases among_app _ ht h2 with z | rfl
      · obtain ⟨c0, rfl, e2⟩ := ha p2 cv z
        exact ⟨c0, rfl, ex _ _ (fun z => by rw [z, hP] at e2; exact codeO_ne _ (Option.some.inj e2).symm) e2⟩
      · exact ⟨c', rfl, upd_same⟩
    · rw [upd_ne (Nat.ne_of_gt hlt), upd_ne (Nat.ne_of_gt (Nat.lt_of_lt_of_le (Heap.lt_size gP) sz))]
      exact I.hok.fresh sz
  · obtain ⟨c', rfl, hco⟩ := ha pos cv hc
    apply PySem.W.kla_makeFunctionHit (mg := X.mg) (c := c) (P := P) (ps := ps) (closure_ok hfree) I.ok.glob (I.mod.glob.keeps I.bk) hcode (TB.code.keeps I.bk) gP ht hc bP
    intro ctv h' tk hx sz
    exact fin h'.objs.size c' ((X.mg "__name__").getD .none) ctv H _ (I.kept (t' := tk) fun b o e => Heap.get?_push_of_some _ (hx b o e)) (fun _ _ _ e => e) hT0 (Heap.get?_push_size _ rfl) (I.hok.fresh sz) (out _ sz) hco
end
/-- the reading of f(lambda: body); TT: what f makes of the body's reading -/
def tLm (P : Addr) (q : Str) (TT : (XK → Hp → VK → Prop) → Hp → VK → Prop) (t : XK → TE) : TE := fun σ H Q => TabS H P q ∧ ∀ H1, ExP P H H1 → TabS H1 P q → TT (fun E H' Q' => t E σ H' Q') H1 Q
section
variable {X : Cx}
theorem pe_lm {TT : (XK → Hp → VK → Prop) → Hp → VK → Prop} {x a q : Str} {g c P : Addr} {k : Nat} {fd : FuncData} {st : Stmt} {Ng : List Str} {params : Arguments} {body : Expr} {scope : Scope} {t : XK → TE} {p lpos pos : Pos}
    (F : Fun X.K x x st g fd) (hg : Gl X x) (hm : X.mg x = some (.ref g)) (hb : L2.Binds X.K fd [a] []) (Sg : FnScope Ng [a] (defScope st)) (hN : Ng[0]? = some a) (hv : Vis (defScope st) a) (hG : ∀ cdv, GivesTo X Ng x (defScope st) g cdv (defBody st) a q TT)
    (TB : LamX.TabB X.base X.mg c P) (hcode : X.env.code = .ref c) (hq : X.env.qual ++ "<lambda>" = q) (hr : Room (k + 2) X.A) (L : LamS X.env.scope scope) (hdef : defaultsOf params X.env = ([], []))
    (hbind : ∀ (q : Str) (cl : List (Str × Addr)) (pm cv ctv : Value), bindArgs (PySem.W.kla_fn "<lambda>" q params body scope cl pm cv ctv) ⟨[], []⟩ = pure [])
    (hbody : ∀ (A : Around) (outer : List Env) (s : Shared) (H : Hp) (E : XK) (f c' : Addr), Room k (A.deeper (lamEnv X scope s.heap.objs.size f c')) → PE (lamCx X A outer s H E scope f c') body (t E))
    (hdb : (x == ("__debug__" : Str)) = false := by decide) (hd : (a == ("__debug__" : Str)) = false := by decide) (hcd : (a == ("__classdict__" : Str)) = false := by decide) :
    PE X (.Call (.Name x p) [.Lambda params body scope lpos] [] pos) (tLm P q TT t) := by
  obtain ⟨oc, od, kV, doc, pm, an, cdv, ct, osl, rfl, lk, hcg⟩ := F.ex
  refine ⟨fun pins s σ H Q I ⟨hT, h⟩ => wpAny_Call_Name_kw (ld_glob I hg hm (PySem.W.callWith_K (h₀ := X.base) I.ok.mod.kin F.kp ?_ (by rfl) (by rfl)) hdb)⟩
  refine Calls.spliced_cons (lam_new I TB hcode hq hT hdef (L.has I.ok) fun f c' pm' ctv H1 s' I1 eN T1 hf hfn hfr hco => Calls.spliced_nil ⟨I1.kIn, ?_⟩)
  subst hq
  have rc : codeAny (model X.prog X.w) X.A (.call (.ref g) ⟨[.ref f], []⟩) (CR C8.CX0 X.stack X.prog X.w H1 s' Q C8.E0) s' :=
    run_ofS (N := Ng) (ps := [a]) (us := [.ref f]) (vs := [.ref f]) lk hcg Sg hr I1.env0 (hb s' [.ref f] I1.kIn rfl) (.cons rfl .nil) rfl fun hr' => by
      obtain ⟨t', ht', hq'⟩ := hG cdv f c' s' H1 Q (fun E H' Q' => t E σ H' Q') (fun W pn xe E p1 p2 tk hW => pe_act (i := 0) I1 L hf hfn hfr (hbind _ _ _ _ _) tk hW hr' (fun A outer s H hr2 => hbody A outer s H E f c' hr2) hN hv hd hcd) hco (h H1 eN T1)
      exact ⟨t', ht'.nox, hq'⟩
  refine wpAny_call (codeAny_mono rc fun r s2 hq => ?_)
  rcases r with e | (u | _ | _ | _)
  · exact (show False from hq).elim
  all_goals first | exact I1.after hq | exact False.elim hq
end
end Pu
set_option Elab.async false
set_option linter.all false
set_option maxRecDepth 100000
set_option maxHeartbeats 4000000
namespace Pu
open PySem PySem.Spec PyProof.Rows L2 GxR Evl LamX
/-- the tables of code that a law and its program write: the generators', and the law's own one of lambdas -/
structure Tx where
  ts : List Addr
  p : Addr
  q : Str
structure Tx.Ok (Z : Tx) (H : Hp) : Prop where
  gs : ∀ T ∈ Z.ts, TabG H T
  lm : TabS H Z.p Z.q
/-- a step: but the tables and what stands at M all stays -/
structure Go (Z : Tx) (M : List Addr) (H H' : Hp) : Prop where
  kp : ∀ b o, b ∉ M → (∀ ps, o ≠ .tbl ps) → H b = some o → H' b = some o
  fr : ∀ b, H' b = none → H b = none
  ok : Z.Ok H'
variable {K : PySem.W.Frag} {Z : Tx} {M M' : List Addr} {H H' H1 H2 H3 : Hp} {a b p T : Addr} {xs ys : List V} {ns : List Int}
theorem Tx.Ok.ex (h : Z.Ok H) (e : Ex H H') : Z.Ok H' := ⟨fun T hT => TabG.ex (h.gs T hT) e, h.lm.ext e⟩
theorem Go.refl (h : Z.Ok H) : Go Z M H H := ⟨fun _ _ _ _ e => e, fun _ e => e, h⟩
theorem Go.trans (x : Go Z M H H1) (y : Go Z M H1 H2) : Go Z M H H2 := ⟨fun b o n m e => y.kp b o n m (x.kp b o n m e), fun b e => x.fr b (y.fr b e), y.ok⟩
theorem Go.mono (x : Go Z M H H1) (h : ∀ b ∈ M, b ∈ M') : Go Z M' H H1 := ⟨fun b o n m e => x.kp b o (fun z => n (h b z)) m e, x.fr, x.ok⟩
theorem Go.of0 (x : Go Z [] H H1) : Go Z M H H1 := x.mono fun _ h => absurd h (List.not_mem_nil)
theorem ex_fresh (e : Ex H H') {b : Addr} (h : H' b = none) : H b = none := by
  cases z : H b with
  | none => rfl
  | some o => rw [e b o z] at h; cases h
theorem Go.ex (h : Z.Ok H) (e : Ex H H') : Go Z M H H' := ⟨fun b o _ _ q => e b o q, fun b q => ex_fresh e q, h.ex e⟩
theorem Go.then (x : Go Z M H H1) (e : Ex H1 H2) : Go Z M H H2 := x.trans (Go.ex x.ok e)
theorem Go.tab (h : Z.Ok H) (hT : T ∈ Z.ts) (np : Z.p ∉ Z.ts) (t : Tabbed T H H') : Go Z M H H' := by
  have nT : Z.p ≠ T := fun z => np (z ▸ hT)
  have kp : ∀ b o, (∀ ps, o ≠ .tbl ps) → H b = some o → H' b = some o := fun b o m e => by
    rw [t.2 b (TabG.ne (h.gs T hT) e m)]
    exact e
  refine ⟨fun b o _ m e => kp b o m e, fun b e => ?_, fun S hS => ?_, ?_⟩
  · by_cases z : b = T
    · obtain ⟨ps, q, _⟩ := t.1
      rw [z, q] at e
      cases e
    · rw [← t.2 b z]; exact e
  · by_cases z : S = T
    · rw [z]; exact t.1
    · obtain ⟨ps, q, r⟩ := h.gs S hS
      exact ⟨ps, by rw [t.2 S z]; exact q, r⟩
  · obtain ⟨ps, q, r, c⟩ := h.lm
    refine ⟨ps, by rw [t.2 _ nT]; exact q, r, fun pos cv hc => ?_⟩
    obtain ⟨d, e1, e2⟩ := c pos cv hc
    exact ⟨d, e1, kp _ _ (fun ps => codeO_ne ps) e2⟩
theorem Go.lam (h : Z.Ok H) (np : Z.p ∉ Z.ts) (e : ExP Z.p H H') (t : TabS H' Z.p Z.q) : Go Z M H H' := by
  refine ⟨fun b o _ m q => e b o (fun z => ?_) q, fun b q => ?_, fun S hS => ?_, t⟩
  · obtain ⟨ps, r, _⟩ := h.lm
    rw [z, r] at q
    exact m ps (Option.some.inj q).symm
  · by_cases z : b = Z.p
    · obtain ⟨ps, r, _⟩ := t
      rw [z, r] at q
      cases q
    · cases y : H b with
      | none => rfl
      | some o => rw [e b o z y] at q; cases q
  · obtain ⟨ps, r, u⟩ := h.gs S hS
    exact ⟨ps, e _ _ (fun z => np (z ▸ hS)) r, u⟩
theorem Tx.Ok.list (h : Z.Ok H) {p : Addr} (hp : H p = some (.lst xs)) (ho : H' p = some (.lst ys)) (kp : ∀ b o, b ≠ p → H b = some o → H' b = some o) : Go Z [p] H H' := by
  refine ⟨fun b o n _ e => kp b o (fun z => n (by rw [z]; exact List.mem_singleton.mpr rfl)) e, fun b e => ?_, fun S hS => ?_, ?_⟩
  · by_cases z : b = p
    · rw [z, ho] at e; cases e
    · cases y : H b with
      | none => rfl
      | some o => rw [kp b o z y] at e; cases e
  · obtain ⟨ps, r, u⟩ := h.gs S hS
    exact ⟨ps, kp _ _ (fun z => by rw [z, hp] at r; cases r) r, u⟩
  · obtain ⟨ps, r, u, c⟩ := h.lm
    refine ⟨ps, kp _ _ (fun z => by rw [z, hp] at r; cases r) r, u, fun pos cv hc => ?_⟩
    obtain ⟨d, e1, e2⟩ := c pos cv hc
    exact ⟨d, e1, kp _ _ (fun z => by rw [z, hp] at e2; have := Option.some.inj e2; unfold CodeO at this; cases this) e2⟩
theorem Go.box (h : Z.Ok H) (hb : BoxAt H p) (e : ExB p H H') : Go Z [p] H H' := by
  obtain ⟨g, s, h1, _⟩ := hb
  obtain ⟨⟨g', s', h2, _⟩, k⟩ := e
  exact h.list h1 h2 k
/-- lists stand at M -/
def Ls (M : List Addr) (H : Hp) : Prop := ∀ m ∈ M, ∃ xs, H m = some (.lst xs)
/-- what stays so, whatever is done with M and the tables -/
def Kp (Z : Tx) (M : List Addr) (F : Hp → Prop) (H : Hp) : Prop := ∀ H', Go Z M H H' → F H'
theorem Kp.go {F : Hp → Prop} (k : Kp Z M F H) (x : Go Z M H H1) : Kp Z M F H1 := fun H2 y => k H2 (x.trans y)
theorem Kp.now {F : Hp → Prop} (k : Kp Z M F H) (h : Z.Ok H) : F H := k H (Go.refl h)
theorem Kp.imp {F G : Hp → Prop} (k : Kp Z M F H) (h : ∀ H', F H' → G H') : Kp Z M G H := fun H' x => h H' (k H' x)
theorem Kp.and {F G : Hp → Prop} (k : Kp Z M F H) (l : Kp Z M G H) : Kp Z M (fun H => F H ∧ G H) H := fun H' x => ⟨k H' x, l H' x⟩
theorem Kp.mono {F : Hp → Prop} (k : Kp Z M' F H) (h : ∀ b ∈ M, b ∈ M') : Kp Z M F H := fun H' x => k H' (x.mono h)
theorem Kp.all {α : Type} {F : α → V → Hp → Prop} {L : List α} {xs : List V} (h : Paired (fun s v => Kp Z M (F s v) H) L xs) : Kp Z M (fun H => Paired (fun s v => F s v H) L xs) H := fun H' x => Paired.mapP h fun _ _ k => k H' x
/-- another list may be bent instead, if it is new -/
theorem Kp.renew {F : Hp → Prop} {p' : Addr} (k : Kp Z [p] F H) (n : H p' = none) (e : Ex H H') : Kp Z [p'] F H' := fun H2 y =>
  k H2 ⟨fun b o _ m q => y.kp b o (fun z => by rw [List.mem_singleton.mp z, n] at q; cases q) m (e b o q), fun b q => ex_fresh e (y.fr b q), y.ok⟩
theorem kp_pure {F : Prop} (h : F) : Kp Z M (fun _ => F) H := fun _ _ => h
theorem kp_at {o : HO} (n : b ∉ M) (m : ∀ ps, o ≠ .tbl ps) (e : H b = some o) : Kp Z M (fun H => H b = some o) H := fun _ x => x.kp b o n m e
theorem kp_rd {u : HO} (n : b ∉ M) (m : ∀ ps, u ≠ .tbl ps) (e : Rd H b u) : Kp Z M (fun H => Rd H b u) H := fun H' x => by
  rcases e with e | ⟨o, e⟩
  · exact .inl (x.kp _ _ n m e)
  · exact .inr ⟨o, x.kp _ _ n (fun ps z => by cases z) e⟩
theorem kp_L (n : b ∉ M) (e : SqL K H b xs) : Kp Z M (fun H => SqL K H b xs) H := fun H' x => e.imp (fun e => kp_rd (Z := Z) n (fun ps z => by cases z) e H' x) id
theorem kp_T (l : Ls M H) (e : SqT K H b xs) : Kp Z M (fun H => SqT K H b xs) H := fun H' x => e.imp (fun e => kp_rd (Z := Z) (fun hm => by
  obtain ⟨ys, h⟩ := l b hm
  rcases e with e | ⟨o, e⟩
  · rw [h] at e; cases e
  · rw [h] at e; cases e) (fun ps z => by cases z) e H' x) id
theorem Ls.nil : Ls [] H := fun _ h => absurd h List.not_mem_nil
theorem Ls.one (h : H p = some (.lst xs)) : Ls [p] H := fun m hm => ⟨xs, by rw [List.mem_singleton.mp hm]; exact h⟩
theorem Go.ne (x : Go Z M H H') (h : H b = none) (e : H' b = none) : True := trivial
theorem Go.new {o : HO} (h : Z.Ok H) (n : H b = none) : Go Z M H (upd H b o) := Go.ex h (Ex.new n)
end Pu
set_option Elab.async false
set_option linter.all false
set_option maxRecDepth 100000
set_option maxHeartbeats 4000000
namespace Pu
open PySem PySem.Spec PyProof.Rows L2 GxR Evl
/-- of two iterations the reader takes one -/
theorem pi_or {X : Cx} {tg it : Expr} {t t' : TI} (h : PI X tg it t) (h' : PI X tg it t') : PI X tg it (fun σ H R => t σ H R ∨ t' σ H R) :=
  ⟨fun pins s σ H R I q => q.elim (fun q => h.run pins s σ H R I q) fun q => h'.run pins s σ H R I q⟩
/-- a list or a tuple is given -/
def Es (K : PySem.W.Frag) (tl : TE) (σ : L2.St) (H : Hp) (xs : List V) : Prop := ∀ H1, Ex H H1 → ∀ Q : VK, (∀ a H2, Ex H1 H2 → SqE K H2 a xs → Q (.ref a) H2) → tl σ H1 Q
variable {K : PySem.W.Frag} {tl te : TE} {tt : TT} {σ : L2.St} {H H' : Hp} {xs : List V} {a : Addr} {j : Nat}
theorem Es.var {i : Nat} (h : σ[i]? = some (some (.ref a))) (q : SqE K H a xs) : Es K (tVar i) σ H xs := fun H1 e Q k => ⟨_, h, k a H1 (Ex.refl H1) (q.ex e)⟩
theorem Es.ofL (h : EvL tl σ H xs) : Es K tl σ H xs := fun H1 e Q k => h H1 e Q fun p H2 _ e2 hp => k p H2 e2 (.inr (SqL.of hp))
theorem Es.ofU (h : EvU tl σ H xs) : Es K tl σ H xs := fun H1 e Q k => h H1 e Q fun p H2 _ e2 hp => k p H2 e2 (.inl (SqT.of hp))
theorem es_sl {th tl2 : TO} {lo hi : Option Int} (h : Ev te σ H (.ref a)) (h1 : EvO tl2 σ H lo) (h2 : EvO th σ H hi) (hs : SqE K H a xs) (hw : ¬ (HT.sIx xs.length 0 lo = 0 ∧ HT.sIx xs.length xs.length hi = xs.length)) : Es K (tSl (fun x lo hi H Q => rSlL K x lo hi H Q ∨ rSlT K x lo hi H Q) te tl2 th) σ H (cutV xs lo hi) := fun H1 e Q k =>
  h H1 e _ fun H2 e2 => h1 H2 (e.trans e2) _ fun H3 e3 => h2 H3 ((e.trans e2).trans e3) _ fun H4 e4 => by
    have q := (((hs.ex e).ex e2).ex e3).ex e4
    rcases q with q | q
    · exact .inr ⟨a, xs, rfl, q, hw, fun p hp => k p _ (((e2.trans e3).trans e4).trans (Ex.new hp)) (.inl (SqT.of upd_same))⟩
    · exact .inl ⟨a, xs, rfl, q, fun p hp => k p _ (((e2.trans e3).trans e4).trans (Ex.new hp)) (.inr (SqL.of upd_same))⟩
theorem q_ifCB {r : List V → Hp → VK → Prop} {tu tw : TS} {D : Ends} (el : EvL te σ H xs) (k : ∀ p H1, Ex H H1 → H1 p = some (.lst xs) → r [.ref p] H1 (fun x H2 => ∃ b, x = .bl b ∧ (if b = true then tu D σ H2 else tw D σ H2))) : tIfS (tB (tCB r (tCons te tNil))) tu tw D σ H :=
  el H (Ex.refl H) _ fun p H1 _ e h => k p H1 e h
theorem s_retCB {r : List V → Hp → VK → Prop} {D : Ends} (el : EvL te σ H xs) (k : ∀ p H1, Ex H H1 → H1 p = some (.lst xs) → r [.ref p] H1 D.rt) : tRet (tCB r (tCons te tNil)) D σ H :=
  el H (Ex.refl H) _ fun p H1 _ e h => k p H1 e h
theorem ev_cbL {r : List V → Hp → VK → Prop} {z : V} (el : EvL te σ H xs) (hr : ∀ p H1, H1 p = some (.lst xs) → RC r [.ref p] H1 z) : Ev (tCB r (tCons te tNil)) σ H z :=
  fun H1 e Q q => el H1 e _ fun p H2 _ e2 h2 => hr p H2 h2 H2 (Ex.refl _) Q fun H3 e3 => q H3 (e2.trans e3)
theorem ev_opU1 {r : R2} {ta tb : TE} {y z : V} (ha : EvU ta σ H xs) (hb : ∀ H1, Ex H H1 → Ev tb σ H1 y) (hr : ∀ p H1, H1 p = some (.tup xs) → RV r (.ref p) y H1 z) : Ev (tOp r ta tb) σ H z := fun H1 e Q q =>
  ha H1 e _ fun p H2 _ e2 h2 => hb H2 (e.trans e2) H2 (Ex.refl _) _ fun H3 e3 => hr p H3 (e3 _ _ h2) H3 (Ex.refl _) Q fun H4 e4 => q H4 ((e2.trans e3).trans e4)
theorem nx_of {D : Ends} (h : D.nx σ H) : tNext D σ H := h
theorem et_yes : EvT tYes σ H true := fun H1 _ _ q => q H1 (Ex.refl H1)
theorem el_lcS (f : Nat → Bool) (v : Nat → V) (h : Es K tl σ H xs) (hl : xs.length ≤ 40000) (ht : ∀ i x H', xs[i]? = some x → Ex H H' → EvT tt (σ.set j (some x)) H' (f i))
    (he : ∀ i x H', xs[i]? = some x → Ex H H' → f i = true → Ev te (σ.set j (some x)) H' (v i)) : EvL (tLc (iSeq K tl) (gName j) tt te [j]) σ H (given xs.length f v) := fun H1 e Q q =>
  h H1 e _ fun a H2 e2 sq => ⟨a, xs, rfl, sq, fun J Gd wk hG D' hD => by
    refine lc_gen wk (fun m H' acc => acc = given m f v) hl hD (fun _ _ _ _ _ _ r => r) rfl hG ?_ ?_
    · intro i x Ha Hb acc hi ex y hR Qy Qn hy hn
      obtain ⟨rfl, hx⟩ := y
      have es : (wipe σ [j]).set j (some x) = σ.set j (some x) := by show (σ.set j none).set j _ = _; rw [List.set_set]
      have e0 := (e.trans e2).trans ex
      refine ⟨wipe1, ?_⟩
      rw [es]
      refine ht i x _ hx e0 _ (Ex.refl _) _ fun H3 e3 => ?_
      cases hf : f i with
      | true =>
        rw [if_pos rfl]
        refine he i x _ hx (e0.trans e3) hf _ (Ex.refl _) _ fun H4 e4 => hy _ _ (e3.trans e4) ?_
        rw [hR, given_yes hf]
      | false =>
        rw [if_neg (by decide)]
        refine hn _ e3 ?_
        rw [hR, given_no hf]
    · intro H4 acc e4 hD4 hR
      exact q D' H4 (ex_fresh e2 hD) (e2.trans e4) (by rw [hD4, hR])⟩
theorem given_all {n : Nat} (v : Nat → V) : given n (fun _ => true) v = (List.range n).map v := by
  unfold given
  rw [List.filter_eq_self.mpr (fun _ _ => rfl)]
theorem el_lcA (v : Nat → V) (h : Es K tl σ H xs) (hl : xs.length ≤ 40000) (he : ∀ i x H', xs[i]? = some x → Ex H H' → Ev te (σ.set j (some x)) H' (v i)) : EvL (tLc (iSeq K tl) (gName j) tYes te [j]) σ H ((List.range xs.length).map v) := by
  rw [← given_all]
  exact el_lcS (fun _ => true) v h hl (fun _ _ _ _ _ => et_yes) fun i x H' h1 h2 _ => he i x H' h1 h2
end Pu
set_option Elab.async false
set_option linter.all false
set_option maxRecDepth 100000
set_option maxHeartbeats 4000000
/-! all(f(x, y) for x in e), y a name of the def that asks. -/
namespace Pu
open PySem PySem.Spec PyProof.Rows L2 GxR
section
variable {X : Cx} {pins : List (Addr × Obj)} {σ : L2.St} {H : Hp} {s : Shared}
/-- the def's names that the generator reads -/
def Cap (X : Cx) (σ : L2.St) (sc : Scope) (cenv : Env) (g : Heap) : Prop := ∀ (j : Nat) (y : Str) (v : V), X.N[j]? = some y → σ[j]? = some (some v) → X.env.scope.names.lookup y = some .cell → sc.names.lookup y = some .free →
  ∃ u c, RelV v u ∧ cenv.cells.lookup y = some c ∧ g.IsCell c (some u)
/-- the element's worth, item by item, from any frame of the generator -/
def EltC (X : Cx) (σ : L2.St) (T : Addr) (sc : Scope) (x : Str) (elt : Expr) (k : Nat) (H1 : Hp) (xs : List V) (pb : Nat → Bool) : Prop :=
  ∀ (B : Around) (cenv : Env) (g : Heap) (i : Nat) (v : V) (u : Value), Room k B → cenv.scope = sc → cenv.globals = mainGlobals → cenv.builtins = builtinsNs → Ext X.base g →
    (∃ m, g.Ns cenv.locals m ∧ m x = some u) → xs[i]? = some v → RelV v u → (∀ b ho, b ≠ T → H1 b = some ho → ObjOk X.prog X.w H1 g b ho) → Cap X σ sc cenv g → EV X.prog X.w B cenv g elt (.bl (pb i))
theorem gen_cap {c T : Addr} {elt iter : Expr} {x : Str} {px gp : Pos} {sc : Scope} {te : TE} {k : Nat} {W : Value → Shared → Prop} {R : Hp → List V → (Nat → Bool) → Prop}
    (hr : Room (k + 1) X.A) (TB : TabB X.base X.mg c T) (hcode : X.env.code = .ref c) (S : GenS X.env sc x) (hi : PE X iter te) (hs : ∀ v, genFold iter X.env v = pure v) (I : Inv X pins σ H s)
    (h : te σ H fun v H1 => ∃ (a : Addr) (xs : List V) (pb : Nat → Bool), v = .ref a ∧ (SqT X.K H1 a xs ∨ SqL X.K H1 a xs) ∧ TabG H1 T ∧ EltC X σ T sc x elt k H1 xs pb ∧ R H1 xs pb)
    (hQ : ∀ H1 xs pb g s5, R H1 xs pb → Drawn X pins σ H1 T xs.length pb g s5 → W (.ref g) s5) :
    wpAny (model X.prog X.w) X.A (eval (.GeneratorExp elt [⟨.Name x px, iter, [], 0⟩] sc gp) X.env) W X.xe s := by
  refine wpAny_GeneratorExp_walksQD hr.hd S.co (closure_ok S.free) S.cell S.dot S.loc S.kind (by have := hr.dp; omega) ?_ hs
  refine thn (hi.run pins s σ H _ I h) fun xv s1 ⟨v, H1, I1, r1, q1⟩ => ?_
  obtain ⟨a, xs, pb, rfl, hsq, ⟨ps, hT, ht⟩, hel, hR⟩ := q1
  cases (show xv = Value.ref a from r1)
  refine iter_any I1 hsq fun o its St rv haLt Wk hst => ?_
  have hTs : s1.heap.get? T = some { cls := .none, data := .fields ps } := I1.hok T _ hT
  have hTlt : T < s1.heap.objs.size := Heap.lt_size hTs
  have hT2 : (s1.heap.push o).get? T = some { cls := .none, data := .fields ps } := Heap.get?_push_of_some _ hTs
  have push_keep : ∀ b u, s1.heap.get? b = some u → (s1.heap.push o).get? b = some u := fun b u e => Heap.get?_push_of_some _ e
  have cd : PySem.W.CodeHd (s1.heap.push o) c T := TB.code.keeps fun b u e => push_keep b u (I1.bk b u e)
  have lim2 : (s1.heap.push o).NoLimit := I1.nolimit.push o
  have noT : ∀ b u, X.base.get? b = some u → b ≠ T := fun b u e z => by
    have n := (I1.bs b u e).2
    rw [z, hT] at n
    cases n
  have hlen : its.toArray.size = xs.length := by rw [List.size_toArray, rv.length]
  refine ⟨lim2, code_any hcode (cd.code hT2 ht) (cd.tab hT2) ht hT2 fun code h3 tk ps' hx hsz hT3 hmore ht3 => ?_⟩
  obtain ⟨bm, ob, e1, e2, e3, e4, e5, e6, e7, e8⟩ := TB.bm
  have cneT : cStatics ≠ T := fun e => by
    obtain ⟨_, hns, _⟩ := I1.nolimit
    obtain ⟨o', es, ep, ho, hd, _⟩ := hns
    rw [e, hTs] at ho
    cases ho
    cases hd
  have cLt : cStatics < s1.heap.objs.size := let ⟨_, hns, _⟩ := I1.nolimit; hns.lt
  have sz2 : (s1.heap.push o).objs.size = s1.heap.objs.size + 1 := Heap.size_push ..
  have keep3 : ∀ b u, b ≠ T → s1.heap.get? b = some u → h3.get? b = some u := fun b u hb e => hx b u hb (push_keep b u e)
  refine wpAny_builtinsFor (m := X.mg) (by rw [I1.ok.glob]; exact ((I1.mod.glob.keeps I1.bk).push o).extBut hx TB.gP) e1 e2 (keep3 _ _ e4 (I1.bk _ _ e5)) e6 e7 e8 ?_
  have aneT : a ≠ T := fun z => by
    rcases hsq with q | q
    · rcases q with (q | ⟨_, q⟩) | ⟨_, _, _, hk, _⟩
      · rw [z, hT] at q; cases q
      · rw [z, hT] at q; cases q
      · exact noT a _ (I1.mod.kin a _ hk) z
    · rcases q with (q | ⟨_, q⟩) | ⟨_, _, _, hk, _⟩
      · rw [z, hT] at q; cases q
      · rw [z, hT] at q; cases q
      · exact noT a _ (I1.mod.kin a _ hk) z
  have sLt : s1.heap.objs.size < h3.objs.size := Nat.lt_of_lt_of_le (by rw [sz2]; exact Nat.lt_succ_self _) hsz
  have Wk2 : ∀ B : Around, B.handled = none → Walks X.prog X.w B s1.heap.objs.size [s1.heap.objs.size, a] [s1.heap.objs.size] xs.length (fun i v => its.toArray[i]? = some v) St := hlen ▸ Wk
  refine ⟨s1.heap.objs.size, [s1.heap.objs.size, a], [s1.heap.objs.size], xs.length, (fun i v => its.toArray[i]? = some v), St, (fun _ => true), (fun i y => y = .bool (pb i)), rfl, Wk2, ?_, ?_, lim2.extBut hx cneT, ?_, ?_, ?_⟩
  · refine (Wk2 X.A hr.hd).frame _ _ _ hst fun b hb u e => hx b u (fun z => ?_) e
    rcases List.mem_cons.mp hb with z2 | z2
    · exact Nat.ne_of_lt hTlt (z.symm.trans z2)
    · rcases List.mem_cons.mp z2 with z2 | z2
      · exact aneT (z2.symm.trans z)
      · cases z2
  · intro b hb
    show b < h3.objs.size
    rcases List.mem_cons.mp hb with z | z
    · rw [z]; exact sLt
    · rcases List.mem_cons.mp z with z | z
      · rw [z]; exact Nat.lt_trans haLt sLt
      · cases z
  · intro z
    rcases List.mem_cons.mp z with z | z
    · exact Nat.ne_of_lt cLt z
    · cases z
  · intro href hhref
    refine ⟨fun A' E' i v s₂ m₂ hA hD hU hPv hn hm hk => ?_, fun A' E' i v s₂ m₂ hA hD hU hPv hp hn hm hk => ?_⟩
    · simp only [List.forIn_nil]
      exact wpAny_pure ⟨rfl, keeps_refl _⟩
    · have hv2 : its[i]? = some v := by simpa using hPv
      have hi2 : i < xs.length := by
        have := (List.getElem?_eq_some_iff.mp hv2).1
        rw [rv.length]; exact this
      obtain ⟨u, hu, ru⟩ := rv.get (List.getElem?_eq_getElem hi2)
      have euv : u = v := Option.some.inj (hu.symm.trans hv2)
      subst euv
      have ob2 : ∀ b w', b ≠ T → s1.heap.get? b = some w' → s₂.heap.get? b = some w' := fun b w' hb e => by
        have l1 := Heap.lt_size e
        have e3 := keep3 b w' hb e
        refine hk b (List.mem_range.mpr (Heap.lt_size e3)) (fun z => ?_) _ (hhref _ _ e3)
        rcases List.mem_cons.mp z with z | z
        · exact Nat.ne_of_lt l1 z
        · cases z
      have rm : Room k A' := ⟨hA, by have := hr.dp; omega, by have := hr.un; omega⟩
      refine hel A' (genEnv sc (cloFrom X.env.cells sc.names []) h3.objs.size code builtinsNs X.env) s₂.heap i _ u rm rfl I1.ok.glob rfl (fun b w' e => ob2 b w' (noT b w' e) (I1.bk b w' e)) ⟨m₂, hn, hm⟩ (List.getElem?_eq_getElem hi2) ru (fun b ho hb e => ?_) (fun jj yy vv n1 n2 n3 n4 => ?_) s₂ _ _ (fun _ _ e => e) fun y h' tk' ry hk' => ?_
      · refine (I1.hok b ho e).stay (fun d w' hd q => ob2 d w' ?_ q) (fun _ q => q) fun _ _ q => q
        rcases hd with z | z
        · rw [z]; exact hb
        · intro z2
          rw [z2, hT] at z
          cases z
      · obtain ⟨m1, _, hl1⟩ := I1.loc
        obtain ⟨uu, r9, lk⟩ := hl1 jj yy vv n1 n2 (.inr (.inl n3))
        rcases lk with ⟨k9, _⟩ | ⟨_, c9, hc9, o9, ho9, hd9⟩
        · rw [show X.env.scope.names.lookup yy = some .local from k9] at n3
          cases n3
        · obtain ⟨c8, h8⟩ := mem_lookup (cloFrom_has (cells := X.env.cells) (acc := []) (PySem.mem_of_lookup n4))
          have e8 : X.env.cells.lookup yy = some c8 := by
            rcases cloFrom_mem (PySem.mem_of_lookup h8) with hm9 | ⟨h1, h2⟩
            · cases hm9
            · obtain ⟨c1, hc1⟩ := S.free _ h1 rfl
              have hc1 : X.env.cells.lookup yy = some c1 := hc1
              have e2 : c8 = c1 := by
                rw [h2, hc1] <;> rfl
              rw [e2]
              exact hc1
          have e7 : c8 = c9 := Option.some.inj (e8.symm.trans hc9)
          subst e7
          have nT : c8 ≠ T := fun z => by
            have n := I1.freeC yy c8 hc9
            rw [z, hT] at n
            cases n
          exact ⟨uu, c8, r9, h8, o9, ob2 _ _ nT ho9, hd9⟩
      · exact ⟨ry, h', tk', rfl, hk'⟩
  · intro g h5 tk5 gs hgb hag hsz5 hk5 W5 hat
    simp only [GxR.passing_true, List.length_range] at W5
    refine hQ H1 xs pb g _ hR ⟨_, _, _, _, _, W5.in4_1, hat, ?_, fun s' hm => ?_⟩
    · intro j y sj Qj Ej hy hQj
      obtain ⟨i, hij, rfl⟩ := hy
      obtain ⟨hj, ej⟩ := List.getElem?_eq_some_iff.mp hij
      rw [List.getElem_range] at ej
      subst ej
      exact wpAny_truthy_bool hQj
    · obtain ⟨more, em⟩ := hmore
      have nwr : ∀ b u, s1.heap.get? b = some u → b ∉ h3.objs.size :: [s1.heap.objs.size] := fun b u e hb => by
        have hl := Heap.lt_size e
        rcases List.mem_cons.mp hb with z | z
        · have h9 : b = h3.objs.size := z
          have : b < s1.heap.objs.size := hl
          rw [h9] at this
          have h10 : h3.objs.size < s1.heap.objs.size := this
          omega
        · rcases List.mem_cons.mp z with z | z
          · rw [z] at hl
            exact Nat.lt_irrefl _ hl
          · cases z
      have J := inv_tab (more := more) (h' := s'.heap) (g' := s'.gens) (d' := s'.drawn) (t' := s'.toks) I1 hT (fun b u hb e => hm.heap b u (nwr b u e) (hk5 b u (keep3 b u hb e)))
        (by rw [← em]; exact hm.heap T _ (nwr T _ hTs) (hk5 T _ hT3)) (AllBare.movedS (I1.bare.push hgb) hm)
      rw [sh_eta s1 s' hm.os] at J
      exact ⟨upd H1 T (.tbl (ps ++ more)), ⟨⟨ps ++ more, upd_same, by rw [← em]; exact ht3⟩, fun b hb => upd_ne hb⟩, J⟩

/-- all(test for x in e), names of the def read: the reading -/
def tAllC (X : Cx) (T : Addr) (sc : Scope) (x : Str) (elt : Expr) (k : Nat) (te : TE) : TE := fun σ H Q => te σ H fun v H1 => ∃ (a : Addr) (xs : List V) (pb : Nat → Bool),
  v = .ref a ∧ (SqT X.K H1 a xs ∨ SqL X.K H1 a xs) ∧ TabG H1 T ∧ EltC X σ T sc x elt k H1 xs pb ∧ ∀ H2, Tabbed T H1 H2 → Q (.bl ((List.range xs.length).all pb)) H2
theorem pe_allC {c T : Addr} {elt iter : Expr} {x : Str} {px p pos gp : Pos} {sc : Scope} {te : TE} {k : Nat} (hr : Room (k + 1) X.A) (hg : Gl X "all") (hm : X.mg "all" = none) (TB : TabB X.base X.mg c T) (hcode : X.env.code = .ref c)
    (S : GenS X.env sc x) (hi : PE X iter te) (hb : bootBuiltins "all" = some (.builtin "all") := by decide +kernel) (hs : ∀ v, genFold iter X.env v = pure v := by intro _; rfl)
    (he : starEach [.GeneratorExp elt [⟨.Name x px, iter, [], 0⟩] sc gp] X.env = (false, eval (.GeneratorExp elt [⟨.Name x px, iter, [], 0⟩] sc gp) X.env) :: starEach [] X.env := by rfl) :
    PE X (.Call (.Name "all" p) [.GeneratorExp elt [⟨.Name x px, iter, [], 0⟩] sc gp] [] pos) (tAllC X T sc x elt k te) := by
  refine ⟨fun pins s σ H Q I h => wpAny_Call_Name_kw (ld_blt I hg hm hb (PyProof.Rows.callWith_builtin1 ?_ he (by rfl)))⟩
  rw [he]
  show wpAny _ _ (spliced ((false, eval (.GeneratorExp elt [⟨.Name x px, iter, [], 0⟩] sc gp) X.env) :: backTo pos (starEach [] X.env))) _ _ s
  refine Calls.spliced_cons (gen_cap (R := fun H1 xs pb => ∀ H2, Tabbed T H1 H2 → Q (.bl ((List.range xs.length).all pb)) H2) hr TB hcode S hi hs I h fun H1 xs pb g s5 hR hG => ?_)
  obtain ⟨fp, wr, G, F, St, Wk, hst, htr, hI⟩ := hG
  refine Calls.spliced_nil (call_all_walkS (Wk.self 0 _ _ _ hst ⟨g, fp, wr, G, _, F, St, _, rfl, Wk, hst, htr, fun s' hmv => ?_⟩))
  obtain ⟨H2, hT, J⟩ := hI s' hmv
  exact ⟨.bl _, H2, J, rfl, hR H2 hT⟩
/-- a name of the def that asks, in the generator -/
theorem ev_cap {P : Program} {w : World} {A : Around} {env : Env} {g : Heap} {x : Str} {pos : Pos} {u : Value} {v : V} {c : Addr} (hk : env.scope.kind = .function) (hx : env.scope.names.lookup x = some .free) (r : RelV v u) (hc : env.cells.lookup x = some c) (hv : g.IsCell c (some u))
    (hd : (x == ("__debug__" : Str)) = false := by decide) (hcd : (x == ("__classdict__" : Str)) = false := by decide) : EV P w A env g (.Name x pos) v := fun s Q E he hQ => by
  obtain ⟨o, ho, hd'⟩ := hv
  exact wpAny_Name (wpAny_loadName_free hk hx hc ⟨o, he _ _ ho, hd'⟩ (hQ u s.heap s.toks r fun _ _ e => e) hcd) hd
end
end Pu
set_option Elab.async false
set_option linter.all false
set_option maxRecDepth 100000
set_option maxHeartbeats 4000000
/-! zip of two sequences, each a list or a tuple. -/
namespace Pz
open PySem
open PySem.Sem (wp)
/-- a list's or a tuple's iterator at its k-th item; the sequence itself -/
def ItAt (h : Heap) (b : Bool) (it l : Addr) (k : Nat) : Prop := match b with
  | true => h.IsTupleIter it l k
  | false => h.IsListIter it l k
def SqAt (h : Heap) (b : Bool) (l : Addr) (xs : Array Value) : Prop := match b with
  | true => h.IsTuple l xs
  | false => h.IsList l xs
section
variable {prog : Program} {w : World} {A : Around} {E : Value → Shared → Prop} {s : Shared}
theorem ItAt.to {h g : Heap} {b : Bool} {it l : Addr} {k : Nat} (x : ItAt h b it l k) (e : ∀ o, h.get? it = some o → g.get? it = some o) : ItAt g b it l k := by
  cases b with
  | true => exact Heap.IsTupleIter.at x e
  | false => exact Heap.IsListIter.at x e
theorem ItAt.lt {h : Heap} {b : Bool} {it l : Addr} {k : Nat} (x : ItAt h b it l k) : it < h.objs.size := by
  cases b with
  | true => obtain ⟨_, e, _⟩ := x; exact Heap.lt_size e
  | false => obtain ⟨_, e, _⟩ := x; exact Heap.lt_size e
theorem ItAt.ob {h : Heap} {b : Bool} {it l : Addr} {k : Nat} (x : ItAt h b it l k) : ∃ o, h.get? it = some o ∧ ∀ v, o.data ≠ .cell v := by
  cases b with
  | true => obtain ⟨o, e, _, d⟩ := x; exact ⟨o, e, fun v q => by rw [d] at q; cases q⟩
  | false => obtain ⟨o, e, _, d⟩ := x; exact ⟨o, e, fun v q => by rw [d] at q; cases q⟩
theorem SqAt.to {h g : Heap} {b : Bool} {l : Addr} {xs : Array Value} (x : SqAt h b l xs) (e : ∀ o, h.get? l = some o → g.get? l = some o) : SqAt g b l xs := by
  cases b with
  | true => obtain ⟨o, a, r⟩ := x; exact ⟨o, e o a, r⟩
  | false => obtain ⟨o, a, r⟩ := x; exact ⟨o, e o a, r⟩
theorem SqAt.lt {h : Heap} {b : Bool} {l : Addr} {xs : Array Value} (x : SqAt h b l xs) : l < h.objs.size := by
  cases b with
  | true => obtain ⟨_, e, _⟩ := x; exact Heap.lt_size e
  | false => obtain ⟨_, e, _⟩ := x; exact Heap.lt_size e
theorem draw {b : Bool} {it l : Addr} {k : Nat} {xs : Array Value} {v : Value} {Q : Value → Shared → Prop} (x : ItAt s.heap b it l k) (y : SqAt s.heap b l xs) (hv : xs[k]? = some v)
    (q : ∀ g, ItAt g b it l (k + 1) → Heap.SameBut it s.heap g → Q v { s with heap := g }) : wpAny (model prog w) A (Builtin.SmallTypes.nextOf (.ref it)) Q E s := by
  cases b with
  | true => exact RZ.nextOf_tuple_item x y hv q
  | false => exact wpAny_nextOf_list_item x y hv q
theorem drawn {b : Bool} {it l : Addr} {k : Nat} {xs : Array Value} {Q : Value → Shared → Prop} (hh : A.handled = none) (x : ItAt s.heap b it l k) (y : SqAt s.heap b l xs) (hv : xs[k]? = none)
    (q : ∀ g e, Heap.ExtBut it s.heap g → (∃ o, g.get? e = some o ∧ o.cls = .type "StopIteration") → E (.ref e) { s with heap := g }) : wpAny (model prog w) A (Builtin.SmallTypes.nextOf (.ref it)) Q E s := by
  cases b with
  | true => exact RZ.nextOf_tuple_end hh x y hv q
  | false => exact wpAny_nextOf_list_end hh x y hv q
end
end Pz
set_option Elab.async false
set_option linter.all false
set_option maxRecDepth 100000
set_option maxHeartbeats 4000000
namespace Pz
open PySem
open PySem.Sem (wp)
/-- all but the zip, its pair and its two iterators stays -/
def Far (z O i j : Addr) (h g : Heap) : Prop := ∀ c o, c ≠ z → c ≠ O → c ≠ i → c ≠ j → h.get? c = some o → g.get? c = some o
section
variable {prog : Program} {w : World} {A : Around} {E : Value → Shared → Prop} {s : Shared} {b b' : Bool} {z N O i j l l' : Addr} {k k' : Nat} {xs ys : Array Value} {p q u v : Value}
theorem zip_item {Q : Value → Shared → Prop} (D : ZipApart z N O i j l l') (hz : IsZip s.heap z N O .none) (hN : IsPair s.heap N (.ref i) (.ref j)) (hO : IsPair s.heap O p q)
    (x1 : ItAt s.heap b i l k) (x2 : ItAt s.heap b' j l' k') (y1 : SqAt s.heap b l xs) (y2 : SqAt s.heap b' l' ys) (hu : xs[k]? = some u) (hv : ys[k']? = some v)
    (done : ∀ g, IsZip g z N O (rawInt s.heap.objs.size) → IsPair g O u v → ItAt g b i l (k + 1) → ItAt g b' j l' (k' + 1) → IsPair g s.heap.objs.size u v → g.objs.size = s.heap.objs.size + 1 → Far z O i j s.heap g → Q (.ref s.heap.objs.size) { s with heap := g }) :
    wpAny (model prog w) A (Builtin.«zip.__next__» ⟨[.ref z], []⟩) (fun f t => ∃ r, f = .done (.ret r) ∧ Q r t) E s := by
  show wpAny _ _ (field (.ref z) 2 >>= _) _ _ _; refine wpAny_bind (wpAny_field hz rfl (x := .bool false) rfl ?_)
  show wpAny _ _ (field (.ref z) 3 >>= _) _ _ _; refine wpAny_bind (wpAny_field hz rfl (x := .ref N) rfl (wpAny_bind (wpAny_seqItems hN rfl ?_)))
  show wpAny _ _ (Builtin.SmallTypes.ownedTupleIsFree (.ref z) >>= _) _ _ _; refine wpAny_bind ?_; unfold Builtin.SmallTypes.ownedTupleIsFree
  refine wpAny_bind (wpAny_field hz rfl (x := .none) rfl (wpAny_pure ?_)); simp only [if_true]; refine wpAny_bind (wpAny_rule (wpAny_bind (wpAny_field hz rfl (x := .ref O) rfl ?_)))
  refine wpAny_bind (wpAny_setField_rec hz (by simp) fun g1 z1 s1 => ?_); replace z1 : IsZip g1 z N O .ellipsis := z1
  refine wpAny_bind ?_; simp only [List.zipIdx_cons, List.zipIdx_nil, List.forIn_cons, List.forIn_nil]
  -- the first sequence
  refine wpAny_bind (wpAny_bind (wpAny_onRaise ?_)); show wpAny _ _ (Builtin.SmallTypes.nextOf (.ref i) >>= _) _ _ _
  refine wpAny_bind (draw (s := { s with heap := g1 }) (x1.to fun o e => s1.extBut _ _ D.i1z e) (y1.to fun o e => s1.extBut _ _ D.l1z e) hu fun g2 w1 s2 => wpAny_pure ?_)
  have o2 : IsPair g2 O p q := s2.extBut _ _ D.TOi1 (s1.extBut _ _ D.TOz hO)
  refine wpAny_bind (wpAny_seqItems o2 rfl (wpAny_bind (wpAny_updateSeq_pair o2 fun g3 o3 s3 => ?_))); replace o3 : IsPair g3 O u q := o3
  refine wpAny_bind (wpAny_letGo (wpAny_pure (wpAny_bind (wpAny_bind (wpAny_onRaise ?_)))))
  -- the second one
  show wpAny _ _ (Builtin.SmallTypes.nextOf (.ref j) >>= _) _ _ _
  have far3 : ∀ c o, c ≠ z → c ≠ i → c ≠ O → s.heap.get? c = some o → g3.get? c = some o := fun c o n1 n2 n3 e => s3.extBut _ _ n3 (s2.extBut _ _ n2 (s1.extBut _ _ n1 e))
  refine wpAny_bind (draw (s := { s with heap := g3 }) (x2.to fun o e => far3 _ _ D.i2z D.i12.symm D.TOi2.symm e) (y2.to fun o e => far3 _ _ D.l2z D.l2i1 D.l2TO e) hv fun g4 w2 s4 => wpAny_pure ?_)
  have o4 : IsPair g4 O u q := s4.extBut _ _ D.TOi2 o3
  refine wpAny_bind (wpAny_seqItems o4 rfl (wpAny_bind (wpAny_updateSeq_pair o4 fun g5 o5 s5 => ?_))); replace o5 : IsPair g5 O u v := o5
  refine wpAny_bind (wpAny_letGo (wpAny_pure (wpAny_pure (wpAny_bind (wpAny_seqItems o5 rfl (wpAny_bind (wpAny_newTuple ?_)))))))
  have far5 : Far z O i j s.heap g5 := fun c o n1 n2 n3 n4 e => s5.extBut _ _ n2 (s4.extBut _ _ n4 (far3 c o n1 n3 n2 e))
  have sz5 : g5.objs.size = s.heap.objs.size := by rw [s5.1, s4.1, s3.1, s2.1, s1.1]
  have z5 : IsZip g5 z N O .ellipsis := s5.extBut _ _ D.TOz.symm (s4.extBut _ _ D.i2z.symm (s3.extBut _ _ D.TOz.symm (s2.extBut _ _ D.i1z.symm z1)))
  have v1 : ItAt g5 b i l (k + 1) := w1.to fun o e => s5.extBut _ _ D.TOi1.symm (s4.extBut _ _ D.i12 (s3.extBut _ _ D.TOi1.symm e))
  have v2 : ItAt g5 b' j l' (k' + 1) := w2.to fun o e => s5.extBut _ _ D.TOi2.symm e
  have zl : z < g5.objs.size := Heap.lt_size z5
  -- the new tuple is handed out
  show wpAny _ _ (Builtin.SmallTypes.ownedTupleHandOut (.ref z) (.ref g5.objs.size) >>= _) _ _ _; refine wpAny_bind ?_; unfold Builtin.SmallTypes.ownedTupleHandOut
  refine wpAny_bind (wpAny_setField_rec (show IsZip (g5.push { cls := .type "tuple", data := .seq #[u, v] }) z N O .ellipsis from Heap.get?_push_of_some _ z5) (by simp) fun g6 z6 s6 => ?_)
  replace z6 : IsZip g6 z N O (rawInt g5.objs.size) := z6; refine wpAny_setField_rec z6 (by simp) fun g7 z7 s7 => ?_; replace z7 : IsZip g7 z N O (rawInt g5.objs.size) := z7
  have up : ∀ c o, c ≠ z → g5.get? c = some o → g7.get? c = some o := fun c o n e => s7.extBut _ _ n (s6.extBut _ _ n (Heap.get?_push_of_some _ e))
  have new : IsPair g7 g5.objs.size u v := s7.extBut _ _ (Nat.ne_of_gt zl) (s6.extBut _ _ (Nat.ne_of_gt zl) (Heap.get?_push_size _ rfl))
  have sz7 : g7.objs.size = g5.objs.size + 1 := by rw [s7.1, s6.1, Heap.size_push]
  rw [sz5] at z7 new sz7
  refine wpAny_pure ⟨_, rfl, ?_⟩; show Q (.ref g5.objs.size) _; rw [sz5]
  exact done g7 z7 (up _ _ D.TOz o5) (v1.to fun o e => up _ _ D.i1z e) (v2.to fun o e => up _ _ D.i2z e) new sz7 fun c o n1 n2 n3 n4 e => up _ _ n1 (far5 c o n1 n2 n3 n4 e)
end
end Pz
set_option Elab.async false
set_option linter.all false
set_option maxRecDepth 100000
set_option maxHeartbeats 4000000
namespace Pz
open PySem
open PySem.Sem (wp)
section
variable {prog : Program} {w : World} {A : Around} {E : Value → Shared → Prop} {s : Shared} {b b' : Bool} {z N O i j l l' : Addr} {k k' : Nat} {xs ys : Array Value} {p q u v : Value}
theorem zip_over {Q : Fin → Shared → Prop} (calm : A.handled = none) (D : ZipApart z N O i j l l') (hz : IsZip s.heap z N O .none) (hN : IsPair s.heap N (.ref i) (.ref j)) (hO : IsPair s.heap O p q)
    (x1 : ItAt s.heap b i l k) (x2 : ItAt s.heap b' j l' k') (y1 : SqAt s.heap b l xs) (y2 : SqAt s.heap b' l' ys) (over : xs[k]? = none ∨ ys[k']? = none)
    (stop : ∀ g e, Far z O i j s.heap g → (∃ o, g.get? e = some o ∧ o.cls = .type "StopIteration") → E (.ref e) { s with heap := g }) :
    wpAny (model prog w) A (Builtin.«zip.__next__» ⟨[.ref z], []⟩) Q E s := by
  show wpAny _ _ (field (.ref z) 2 >>= _) _ _ _; refine wpAny_bind (wpAny_field hz rfl (x := .bool false) rfl ?_)
  show wpAny _ _ (field (.ref z) 3 >>= _) _ _ _; refine wpAny_bind (wpAny_field hz rfl (x := .ref N) rfl (wpAny_bind (wpAny_seqItems hN rfl ?_)))
  show wpAny _ _ (Builtin.SmallTypes.ownedTupleIsFree (.ref z) >>= _) _ _ _; refine wpAny_bind ?_; unfold Builtin.SmallTypes.ownedTupleIsFree
  refine wpAny_bind (wpAny_field hz rfl (x := .none) rfl (wpAny_pure ?_)); simp only [if_true]; refine wpAny_bind (wpAny_rule (wpAny_bind (wpAny_field hz rfl (x := .ref O) rfl ?_)))
  refine wpAny_bind (wpAny_setField_rec hz (by simp) fun g1 z1 s1 => ?_); replace z1 : IsZip g1 z N O .ellipsis := z1
  refine wpAny_bind ?_; simp only [List.zipIdx_cons, List.zipIdx_nil, List.forIn_cons, List.forIn_nil]
  refine wpAny_bind (wpAny_bind (wpAny_onRaise ?_)); show wpAny _ _ (Builtin.SmallTypes.nextOf (.ref i) >>= _) _ _ _
  have xi : ItAt g1 b i l k := x1.to fun o e => s1.extBut _ _ D.i1z e
  have yi : SqAt g1 b l xs := y1.to fun o e => s1.extBut _ _ D.l1z e
  match hu : xs[k]? with
  | none =>
    refine wpAny_bind (drawn (s := { s with heap := g1 }) calm xi yi hu fun g2 e far fin => ?_)
    obtain ⟨oe, he, ce⟩ := fin
    have z2 : IsZip g2 z N O .ellipsis := far _ _ D.i1z.symm z1
    have en : e ≠ z := by intro y; rw [y, z2] at he; cases he; simp at ce
    exact wpAny_setField_rec z2 (by simp) fun g3 _ s3 => stop g3 e (fun c o n1 _ n3 _ a => s3.extBut _ _ n1 (far _ _ n3 (s1.extBut _ _ n1 a))) ⟨oe, s3.extBut _ _ en he, ce⟩
  | some u =>
    have hv : ys[k']? = none := over.resolve_left fun y => by rw [hu] at y; cases y
    refine wpAny_bind (draw (s := { s with heap := g1 }) xi yi hu fun g2 w1 s2 => wpAny_pure ?_)
    have o2 : IsPair g2 O p q := s2.extBut _ _ D.TOi1 (s1.extBut _ _ D.TOz hO)
    refine wpAny_bind (wpAny_seqItems o2 rfl (wpAny_bind (wpAny_updateSeq_pair o2 fun g3 o3 s3 => ?_)))
    refine wpAny_bind (wpAny_letGo (wpAny_pure (wpAny_bind (wpAny_bind (wpAny_onRaise ?_))))); show wpAny _ _ (Builtin.SmallTypes.nextOf (.ref j) >>= _) _ _ _
    have far3 : ∀ c o, c ≠ z → c ≠ i → c ≠ O → s.heap.get? c = some o → g3.get? c = some o := fun c o n1 n2 n3 e => s3.extBut _ _ n3 (s2.extBut _ _ n2 (s1.extBut _ _ n1 e))
    refine wpAny_bind (drawn (s := { s with heap := g3 }) calm (x2.to fun o e => far3 _ _ D.i2z D.i12.symm D.TOi2.symm e) (y2.to fun o e => far3 _ _ D.l2z D.l2i1 D.l2TO e) hv fun g4 e far fin => ?_)
    obtain ⟨oe, he, ce⟩ := fin
    have z4 : IsZip g4 z N O .ellipsis := far _ _ D.i2z.symm (s3.extBut _ _ D.TOz.symm (s2.extBut _ _ D.i1z.symm z1))
    have en : e ≠ z := by intro y; rw [y, z4] at he; cases he; simp at ce
    exact wpAny_setField_rec z4 (by simp) fun g5 _ s5 => stop g5 e (fun c o n1 n2 n3 n4 a => s5.extBut _ _ n1 (far _ _ n4 (far3 c o n1 n3 n2 a))) ⟨oe, s5.extBut _ _ en he, ce⟩
theorem next_item {Q : Option Value → Shared → Prop} (D : ZipApart z N O i j l l') (hz : IsZip s.heap z N O .none) (hN : IsPair s.heap N (.ref i) (.ref j)) (hO : IsPair s.heap O p q)
    (x1 : ItAt s.heap b i l k) (x2 : ItAt s.heap b' j l' k') (y1 : SqAt s.heap b l xs) (y2 : SqAt s.heap b' l' ys) (hu : xs[k]? = some u) (hv : ys[k']? = some v)
    (done : ∀ g, IsZip g z N O (rawInt s.heap.objs.size) → IsPair g O u v → ItAt g b i l (k + 1) → ItAt g b' j l' (k' + 1) → IsPair g s.heap.objs.size u v → g.objs.size = s.heap.objs.size + 1 → Far z O i j s.heap g → Q (some (.ref s.heap.objs.size)) { s with heap := g }) :
    wpAny (model prog w) A (pyNext (.ref z)) Q E s := by
  have ty : s.TypeIs (.ref z) "zip" := ⟨_, hz, rfl⟩
  unfold pyNext
  refine wpAny_bind (wpAny_attempt (wpAny_callSpecial?_slot (name := Str.ofString "__next__") ty F.slot_zip_next (wpAny_call_entry F.slot_zip_next ty F.entry_zip_next ?_ (F.args_zip_next_1 _))))
  exact zip_item D hz hN hO x1 x2 y1 y2 hu hv fun g c1 c2 c3 c4 c5 c6 c7 => wpAny_pure (done g c1 c2 c3 c4 c5 c6 c7)
theorem next_over {Q : Option Value → Shared → Prop} (calm : A.handled = none) (D : ZipApart z N O i j l l') (hz : IsZip s.heap z N O .none) (hN : IsPair s.heap N (.ref i) (.ref j)) (hO : IsPair s.heap O p q)
    (x1 : ItAt s.heap b i l k) (x2 : ItAt s.heap b' j l' k') (y1 : SqAt s.heap b l xs) (y2 : SqAt s.heap b' l' ys) (over : xs[k]? = none ∨ ys[k']? = none) (done : ∀ g, Far z O i j s.heap g → Q none { s with heap := g }) :
    wpAny (model prog w) A (pyNext (.ref z)) Q E s := by
  have ty : s.TypeIs (.ref z) "zip" := ⟨_, hz, rfl⟩
  unfold pyNext
  refine wpAny_bind (wpAny_attempt (wpAny_callSpecial?_slot (name := Str.ofString "__next__") ty F.slot_zip_next (wpAny_call_entry F.slot_zip_next ty F.entry_zip_next ?_ (F.args_zip_next_1 _))))
  refine zip_over calm D hz hN hO x1 x2 y1 y2 over fun g e far fin => ?_
  obtain ⟨o, ho, hc⟩ := fin
  exact wpAny_bind (wpAny_isInstance (T := "StopIteration") (b := true) ⟨o, ho, hc⟩ isSubtype_stop (wpAny_pure (done g far)))
/-- the class of a sequence's iterator -/
def itCls (b : Bool) : Value := if b = true then .type "tuple_iterator" else .type "list_iterator"
theorem iter_of {Q : Value → Shared → Prop} (y : SqAt s.heap b l xs) (q : Q (.ref s.heap.objs.size) { s with heap := s.heap.push { cls := itCls b, data := .fields #[.ref l, .int 0 0] } }) : wpAny (model prog w) A (pyIter (.ref l)) Q E s := by
  cases b with
  | true => exact wpAny_pyIter_tuple y q
  | false => exact wpAny_pyIter_list y q
theorem it_new {h : Heap} {g : Heap} {a : Addr} (e : g.get? a = some { cls := itCls b, data := .fields #[.ref l, .int 0 0] }) : ItAt g b a l 0 := by
  cases b with
  | true => exact ⟨_, e, rfl, rfl⟩
  | false => exact ⟨_, e, rfl, rfl⟩
end
end Pz
set_option Elab.async false
set_option linter.all false
set_option maxRecDepth 100000
set_option maxHeartbeats 4000000
namespace Pz
open PySem
open PySem.Sem (wp)
def itOf (b : Bool) (l : Addr) : Obj := { cls := itCls b, data := .fields #[.ref l, .int 0 0] }
def made2 (h : Heap) (b b' : Bool) (l l' : Addr) : Heap := (h.push (itOf b l)).push (itOf b' l')
def made3 (h : Heap) (b b' : Bool) (l l' : Addr) : Heap := (made2 h b b' l l').push { cls := .type "tuple", data := .seq #[.ref h.objs.size, .ref (h.push (itOf b l)).objs.size] }
def made4 (h : Heap) (b b' : Bool) (l l' : Addr) : Heap := (made3 h b b' l l').push { cls := .type "tuple", data := .seq #[.none, .none] }
def made5 (h : Heap) (b b' : Bool) (l l' : Addr) : Heap := (made4 h b b' l l').push { cls := .type "zip", data := .fields #[.none, .bool false, .bool false, .ref (made2 h b b' l l').objs.size, .ref (made3 h b b' l l').objs.size] }
theorem zip_makes (b b' : Bool) (l l' : Addr) (xs ys : Array Value) :
    Meets (Builtin.«zip.__new__» ⟨[.type "zip", .ref l, .ref l'], []⟩) (fun _ R s => SqAt s.heap b l xs ∧ SqAt s.heap b' l' ys ∧ R (.ok (.ret (.ref (made4 s.heap b b' l l').objs.size))) { s with heap := made5 s.heap b b' l l' }) :=
  .of_wp fun prog w A R t ht => by
    obtain ⟨h, g, d, tk, os⟩ := t; obtain ⟨y1, y2, r⟩ := ht
    have sub := sub_zip
    have c1 : SqAt (Shared.heap ⟨h, g, d, tk, os⟩) b l xs := y1
    have c2 : SqAt (Shared.heap ⟨h.push { cls := itCls b, data := .fields #[.ref l, .int 0 0] }, g, d, tk, os⟩) b' l' ys := y2.to fun o e => Heap.get?_push_of_some _ e
    wp_walk using iter_of c1, iter_of c2
    exact ⟨_, rfl, r⟩
section
variable {prog : Program} {w : World} {A : Around} {E : Value → Shared → Prop} {s : Shared} {b b' : Bool} {l l' : Addr} {xs ys : Array Value}
theorem call_zip {Q : Value → Shared → Prop} (y1 : SqAt s.heap b l xs) (y2 : SqAt s.heap b' l' ys)
    (q : ∀ g, IsZip g (s.heap.objs.size + 4) (s.heap.objs.size + 2) (s.heap.objs.size + 3) .none → IsPair g (s.heap.objs.size + 2) (.ref s.heap.objs.size) (.ref (s.heap.objs.size + 1)) → IsPair g (s.heap.objs.size + 3) .none .none →
      ItAt g b s.heap.objs.size l 0 → ItAt g b' (s.heap.objs.size + 1) l' 0 → (∀ c o, s.heap.get? c = some o → g.get? c = some o) → Q (.ref (s.heap.objs.size + 4)) { s with heap := g }) :
    wpAny (model prog w) A (call (.type "zip") [.ref l, .ref l']) Q E s := by
  refine callType_new F.called_zip (by decide) (F.typeCall_zip_2 _ _) (F.newCall_zip_2 _ _) (fun o => F.args_object_init_3 o _ _) F.entry_zip_new (zip_makes b b' l l' xs ys) ⟨y1, y2, ?_⟩
  obtain ⟨n, hn⟩ : ∃ n, n = s.heap.objs.size := ⟨_, rfl⟩
  have n1 : (s.heap.push (itOf b l)).objs.size = n + 1 := by rw [Heap.size_push, hn]
  have n2 : (made2 s.heap b b' l l').objs.size = n + 2 := by unfold made2; rw [Heap.size_push, n1]
  have n3 : (made3 s.heap b b' l l').objs.size = n + 3 := by unfold made3; rw [Heap.size_push, n2]
  have n4 : (made4 s.heap b b' l l').objs.size = n + 4 := by unfold made4; rw [Heap.size_push, n3]
  have a5 : IsZip (made5 s.heap b b' l l') (made4 s.heap b b' l l').objs.size (made2 s.heap b b' l l').objs.size (made3 s.heap b b' l l').objs.size .none := Heap.get?_push_size _ rfl
  have a4 : IsPair (made5 s.heap b b' l l') (made3 s.heap b b' l l').objs.size .none .none := Heap.get?_push_of_some _ (Heap.get?_push_size _ rfl)
  have a3 : IsPair (made5 s.heap b b' l l') (made2 s.heap b b' l l').objs.size (.ref s.heap.objs.size) (.ref (s.heap.push (itOf b l)).objs.size) := Heap.get?_push_of_some _ (Heap.get?_push_of_some _ (Heap.get?_push_size _ rfl))
  have a2 : (made5 s.heap b b' l l').get? (s.heap.push (itOf b l)).objs.size = some (itOf b' l') := Heap.get?_push_of_some _ (Heap.get?_push_of_some _ (Heap.get?_push_of_some _ (Heap.get?_push_size _ rfl)))
  have a1 : (made5 s.heap b b' l l').get? s.heap.objs.size = some (itOf b l) := Heap.get?_push_of_some _ (Heap.get?_push_of_some _ (Heap.get?_push_of_some _ (Heap.get?_push_of_some _ (Heap.get?_push_size _ rfl))))
  rw [n2, n3, n4] at a5
  rw [n3] at a4
  rw [n1, n2, ← hn] at a3
  rw [n1] at a2
  rw [← hn] at a1
  rw [← hn] at q
  show _ ∧ _
  rw [n4]
  exact ⟨⟨_, a5, rfl⟩, q _ a5 a3 a4 (it_new (h := s.heap) a1) (it_new (h := s.heap) a2) fun c o e => Heap.get?_push_of_some _ (Heap.get?_push_of_some _ (Heap.get?_push_of_some _ (Heap.get?_push_of_some _ (Heap.get?_push_of_some _ e))))⟩
end
end Pz
set_option Elab.async false
set_option linter.all false
set_option maxRecDepth 100000
set_option maxHeartbeats 4000000
namespace Pz
open PySem PySem.Spec PyProof.Rows L2
def SqB (K : PySem.W.Frag) (H : Hp) (b : Bool) (a : Addr) (xs : List V) : Prop := match b with
  | true => SqT K H a xs
  | false => SqL K H a xs
theorem SqB.at {X : Cx} {pins : List (Addr × Obj)} {σ : L2.St} {H : Hp} {s : Shared} {b : Bool} {a : Addr} {xs : List V} (I : Inv X pins σ H s) (q : SqB X.K H b a xs) : ∃ its : List Value, Vals xs its ∧ SqAt s.heap b a its.toArray := by
  cases b with
  | true =>
    obtain ⟨its, r, p, _⟩ := I.tuple q
    exact ⟨its, r, p⟩
  | false =>
    obtain ⟨its, r, p, _⟩ := I.list q
    exact ⟨its, r, p.isList⟩
/-- the sequences at a and c, item by item in new pairs -/
def Izs (K : PySem.W.Frag) (b b' : Bool) (a c : Addr) (xs ys : List V) : It :=
  ⟨fun i H => (SqB K H b a xs ∧ SqB K H b' c ys) ∧ i < xs.length ∧ i < ys.length, fun i H v H' => ∃ T x y, v = .ref T ∧ H T = none ∧ H' = upd H T (.tup [x, y]) ∧ xs[i]? = some x ∧ ys[i]? = some y,
    fun i H => (SqB K H b a xs ∧ SqB K H b' c ys) ∧ (xs.length ≤ i ∨ ys.length ≤ i)⟩
def Stz (b b' : Bool) (a c z N O i j : Addr) (k : Nat) (h : Heap) : Prop := IsZip h z N O .none ∧ IsPair h N (.ref i) (.ref j) ∧ (∃ x y, IsPair h O x y) ∧ ItAt h b i a k ∧ ItAt h b' j c k
theorem five {z N O i j c : Addr} {P : Addr → Prop} (h : c ∈ [z, N, O, i, j]) (p1 : P z) (p2 : P N) (p3 : P O) (p4 : P i) (p5 : P j) : P c := by
  rcases List.mem_cons.mp h with y | h
  · rw [y]; exact p1
  · rcases List.mem_cons.mp h with y | h
    · rw [y]; exact p2
    · rcases List.mem_cons.mp h with y | h
      · rw [y]; exact p3
      · rcases List.mem_cons.mp h with y | h
        · rw [y]; exact p4
        · rw [List.mem_singleton.mp h]; exact p5
theorem not5 {z N O i j c : Addr} (h : c ∉ [z, N, O, i, j]) : c ≠ z ∧ c ≠ N ∧ c ≠ O ∧ c ≠ i ∧ c ≠ j := by
  refine ⟨fun y => h ?_, fun y => h ?_, fun y => h ?_, fun y => h ?_, fun y => h ?_⟩ <;> rw [y] <;> simp
theorem turn_zs {P : Program} {w : World} {K : PySem.W.Frag} {elts : List Expr} {kk : Nat} {tpos : Pos} {b b' : Bool} {a c z N O i j : Addr} {xs ys : List V} (D : ZipApart z N O i j a c) :
    Turn P w K (.Tuple elts kk tpos) (Izs K b b' a c xs ys) [z, N, O, i, j] z (Stz b b' a c z N O i j) where
  mem := List.mem_cons_self ..
  obj := fun k h st d hd => by
    obtain ⟨s1, s2, ⟨x, y, s3⟩, s4, s5⟩ := st
    exact five (P := fun d => ∃ o, h.get? d = some o ∧ ∀ v, o.data ≠ .cell v) hd ⟨_, s1, fun v q => nomatch q⟩ ⟨_, s2, fun v q => nomatch q⟩ ⟨_, s3, fun v q => nomatch q⟩ s4.ob s5.ob
  keep := fun k h g st kp => by
    obtain ⟨s1, s2, ⟨x, y, s3⟩, s4, s5⟩ := st
    exact ⟨kp _ (by simp) _ s1, kp _ (by simp) _ s2, ⟨x, y, kp _ (by simp) _ s3⟩, s4.to (kp _ (by simp)), s5.to (kp _ (by simp))⟩
  item := fun X hP hw hK hc k pins s σ H E I hf st go => by
    subst hP hw hK
    obtain ⟨s1, s2, ⟨x0, y0, s3⟩, s4, s5⟩ := st
    obtain ⟨⟨qx, qy⟩, lx, ly⟩ := go
    obtain ⟨us, ru, p1⟩ := qx.at I
    obtain ⟨vs, rv, p2⟩ := qy.at I
    obtain ⟨u, hu, r1⟩ := ru.get (List.getElem?_eq_getElem lx)
    obtain ⟨v, hv, r2⟩ := rv.get (List.getElem?_eq_getElem ly)
    have zl : z < s.heap.objs.size := Heap.lt_size s1
    refine next_item D s1 s2 s3 s4 s5 p1 p2 (u := u) (v := v) (by simpa using hu) (by simpa using hv) fun g z' o' i' j' new _ far => ⟨_, rfl, wpAny_letOwnedTupleGo_zip (s := { s with heap := g }) z' fun g2 z2 sb => ?_⟩
    have new2 : IsPair g2 s.heap.objs.size u v := (sb.2 _ (Nat.ne_of_gt zl)).trans new
    have keep : ∀ d o, d ∉ [z, N, O, i, j] → s.heap.get? d = some o → g2.get? d = some o := fun d o nd e => by
      obtain ⟨n1, _, n3, n4, n5⟩ := not5 nd
      exact (sb.2 _ n1).trans (far d o n1 n3 n4 n5 e)
    have ob : ObjOk X.prog X.w (upd H s.heap.objs.size (.tup [xs[k], ys[k]])) g2 s.heap.objs.size (.tup [xs[k], ys[k]]) := ⟨by show 2 ≤ sizeLine; decide, [u, v], .cons r1 (.cons r2 .nil), ⟨_, new2, rfl, _, rfl⟩⟩
    have J := I.turnedNew (t' := s.toks) (ch := [z, N, O, i, j]) (fun d o nd e => keep d o nd e) hf (Nat.le_refl _) ob
    refine ⟨.ref s.heap.objs.size, _, J, rfl, ⟨_, xs[k], ys[k], rfl, I.hok.fresh (Nat.le_refl _), rfl, List.getElem?_eq_getElem lx, List.getElem?_eq_getElem ly⟩, ⟨z2, (sb.2 _ D.TIz).trans (far _ _ D.TIz D.TITO D.TIi1 D.TIi2 s2), ⟨u, v, (sb.2 _ D.TOz).trans o'⟩, i'.to fun o e => (sb.2 _ D.i1z).trans e, j'.to fun o e => (sb.2 _ D.i2z).trans e⟩, fun d hd => ?_⟩
    have lt : d < s.heap.objs.size := five (P := fun d => d < s.heap.objs.size) hd zl (Heap.lt_size s2) (Heap.lt_size s3) s4.lt s5.lt
    rw [upd_ne (Nat.ne_of_lt lt)]
    exact (hf d hd).1
  done := fun X hP hw hK hc k pins s σ H E I hf st stop => by
    subst hP hw hK
    obtain ⟨s1, s2, ⟨x0, y0, s3⟩, s4, s5⟩ := st
    obtain ⟨⟨qx, qy⟩, over⟩ := stop
    obtain ⟨us, ru, p1⟩ := qx.at I
    obtain ⟨vs, rv, p2⟩ := qy.at I
    have l1 := ru.length
    have l2 := rv.length
    refine next_over (I.ok.hd hc) D s1 s2 s3 s4 s5 p1 p2 ?_ fun g far => ⟨rfl, I.turnedL (t' := s.toks) (ch := [z, N, O, i, j]) (fun d o nd e => ?_) hf⟩
    · rcases over with y | y
      · exact .inl (by simp; omega)
      · exact .inr (by simp; omega)
    · obtain ⟨n1, _, n3, n4, n5⟩ := not5 nd
      exact far d o n1 n3 n4 n5 e
  self := fun A k s Q E st q => wpAny_pyIter_zip st.1 q
def iZipE (K : PySem.W.Frag) (ta : TA) : TI := fun σ H R => ta σ H fun vs H1 => ∃ b b' a c xs ys, vs = [.ref a, .ref c] ∧ SqB K H1 b a xs ∧ SqB K H1 b' c ys ∧ R (Izs K b b' a c xs ys) H1
theorem pi_zipE {X : Cx} {e e2 : Expr} {ta : TA} {p pos tpos : Pos} {elts : List Expr} {kk : Nat} (hg : Gl X "zip") (hm : X.mg "zip" = none) (ha : PA X [e, e2] ta)
    (hs : starEach [e, e2] X.env = (false, eval e X.env) :: starEach [e2] X.env := by rfl) (hpl : (backTo pos (starEach [e2] X.env)).any (·.1) = false := by rfl) :
    PI X (.Tuple elts kk tpos) (.Call (.Name "zip" p) [e, e2] [] pos) (iZipE X.K ta) := ⟨fun pins s σ H R I h => by
  refine Call_ (ld_blt I hg hm PyProof.Rows.boot_zip (PyProof.Rows.callWith_type1 (thn (ha.run pos pins s σ H _ I h) fun us t ⟨vs, H1, J, r, q⟩ => ?_) hs hpl))
  obtain ⟨b, b', a, c, xs, ys, rfl, qx, qy, q⟩ := q
  obtain ⟨u1, u2, rfl, r1, r2⟩ := vals2 r
  cases (show u1 = Value.ref a from r1)
  cases (show u2 = Value.ref c from r2)
  obtain ⟨is1, rv1, p1⟩ := qx.at J
  obtain ⟨is2, rv2, p2⟩ := qy.at J
  refine call_zip p1 p2 fun g z1 n1 o1 i1 j1 kp => wpAny_pyIter_zip z1 ?_
  have J2 : Inv X pins σ H1 { t with heap := g } := J.kept (t' := t.toks) kp
  exact ⟨t.heap.objs.size + 4, [t.heap.objs.size + 4, t.heap.objs.size + 2, t.heap.objs.size + 3, t.heap.objs.size, t.heap.objs.size + 1], _, _, H1, rfl, J2, turn_zs (PySem.W.ktu_apart t.heap.objs.size a c p1.lt p2.lt), ⟨z1, n1, ⟨_, _, o1⟩, i1, j1⟩, fun d hd => by
    have le : t.heap.objs.size ≤ d := five (P := fun d => t.heap.objs.size ≤ d) hd (Nat.le_add_right _ _) (Nat.le_add_right _ _) (Nat.le_add_right _ _) (Nat.le_refl _) (Nat.le_add_right _ _)
    exact J.fpOk le (J.hok.fresh le), q⟩⟩
/-- a loop over a zip of sequences of one length -/
theorem for_zs {K : PySem.W.Frag} {b b' : Bool} {a c : Addr} {xs ys : List V} {g : TG} {tb : TS} {D : Ends} {σ : L2.St} {H : Hp} (hl : xs.length = ys.length) (Pv : Nat → L2.St → Hp → Prop) (h0 : Pv 0 σ H) (hq : ∀ i σ H, Pv i σ H → SqB K H b a xs ∧ SqB K H b' c ys)
    (hs : ∀ (i : Nat) (x y : V) (T : Addr) (σ : L2.St) (H : Hp), xs[i]? = some x → ys[i]? = some y → Pv i σ H → H T = none → g (.ref T) σ (upd H T (.tup [x, y])) fun σ2 H2 => tb { D with nx := Pv (i + 1), ct := Pv (i + 1), bk := D.nx } σ2 H2) (hd : ∀ σ H, Pv xs.length σ H → D.nx σ H) :
    ∃ W : Nat → Nat → L2.St → Hp → Prop, (∃ m, W 0 m σ H) ∧ ∀ i m σ H, W i m σ H →
      ((Izs K b b' a c xs ys).stop i H ∧ D.nx σ H) ∨ ((Izs K b b' a c xs ys).go i H ∧ ∃ N : L2.St → Hp → Prop, (∀ σ' H', N σ' H' → ∃ m', m' < m ∧ W (i + 1) m' σ' H') ∧ ∀ v H', (Izs K b b' a c xs ys).yld i H v H' → g v σ H' fun σ2 H2 => tb { D with nx := N, ct := N, bk := D.nx } σ2 H2) := by
  refine ⟨fun i m σ H => m + i = xs.length ∧ Pv i σ H, ⟨xs.length, rfl, h0⟩, fun i m σ H ⟨e, pv⟩ => ?_⟩
  match m, e with
  | 0, e =>
    have e' : i = xs.length := by omega
    rw [e'] at pv ⊢
    exact .inl ⟨⟨hq _ _ _ pv, .inl (Nat.le_refl _)⟩, hd _ _ pv⟩
  | m + 1, e =>
    refine .inr ⟨⟨hq _ _ _ pv, by omega, by omega⟩, Pv (i + 1), fun σ' H' p => ⟨m, Nat.lt_succ_self m, by omega, p⟩, fun v H' y => ?_⟩
    obtain ⟨T, x, y, rfl, hT, rfl, hx, hy⟩ := y
    exact hs i x y T σ H hx hy pv hT
end Pz
set_option Elab.async false
set_option linter.all false
set_option maxRecDepth 100000
set_option maxHeartbeats 4000000
namespace Pu
open PySem PySem.Spec PyProof.Rows L2 GxR Evl Pz
variable {K : PySem.W.Frag} {te : TE} {ta : TA} {tt : TT} {σ : L2.St} {H H' : Hp} {xs ys : List V} {a c : Addr} {j k : Nat}
theorem SqB.of (h : SqE K H a xs) : ∃ b, SqB K H b a xs := h.elim (fun q => ⟨true, q⟩) fun q => ⟨false, q⟩
theorem SqB.e {b : Bool} (h : SqB K H b a xs) : SqE K H a xs := by
  cases b with
  | true => exact .inl h
  | false => exact .inr h
theorem SqB.ex {b : Bool} (h : SqB K H b a xs) (e : Ex H H') : SqB K H' b a xs := by
  cases b with
  | true => exact ex_t e h
  | false => exact ex_l e h
theorem walk_zs {b b' : Bool} : Walk (Izs K b b' a c xs ys) (min xs.length ys.length) (fun H => SqB K H b a xs ∧ SqB K H b' c ys) (YPair (fun i => xs[i]?) (fun i => ys[i]?)) := by
  refine ⟨fun i _ hi q => ⟨q, by omega, by omega⟩, fun _ q => ⟨q, by omega⟩, fun i H v H' _ q y => y⟩
/-- slices of either, the whole of a tuple among them -/
theorem es_slA {tl2 th : TO} {lo hi : Option Int} (h : Ev te σ H (.ref a)) (h1 : EvO tl2 σ H lo) (h2 : EvO th σ H hi) (hs : SqE K H a xs) : Es K (tSl (fun x lo hi H Q => rSlL K x lo hi H Q ∨ rSlA K x lo hi H Q) te tl2 th) σ H (cutV xs lo hi) := fun H1 e Q kk =>
  h H1 e _ fun H2 e2 => h1 H2 (e.trans e2) _ fun H3 e3 => h2 H3 ((e.trans e2).trans e3) _ fun H4 e4 => by
    have q := (((hs.ex e).ex e2).ex e3).ex e4
    rcases q with q | q
    · refine .inr ⟨a, xs, rfl, q, fun hw => kk a H4 ((e2.trans e3).trans e4) (.inl ?_), fun _ p hp => kk p _ (((e2.trans e3).trans e4).trans (Ex.new hp)) (.inl (SqT.of upd_same))⟩
      have : cutV xs lo hi = xs := by
        unfold cutV
        rw [hw.1, hw.2, List.drop_zero, Nat.sub_zero, List.take_length]
      rw [this]
      exact q
    · exact .inl ⟨a, xs, rfl, q, fun p hp => kk p _ (((e2.trans e3).trans e4).trans (Ex.new hp)) (.inr (SqL.of upd_same))⟩
theorem wipe_two {x y : V} (h : j ≠ k) : ((wipe σ [j, k]).set j (some x)).set k (some y) = (σ.set j (some x)).set k (some y) := by
  show (((σ.set k none).set j none).set j (some x)).set k (some y) = _
  rw [List.set_set, List.set_comm _ _ (Ne.symm h), List.set_set]
theorem wipe_two' {x y : V} (h : j ≠ k) : wipe ((σ.set j (some x)).set k (some y)) [j, k] = wipe σ [j, k] := by
  show (((σ.set j (some x)).set k (some y)).set k none).set j none = (σ.set k none).set j none
  rw [List.set_set, List.set_comm _ _ h, List.set_set]
/-- [e for a, b in zip(..)] -/
theorem el_lcZ {n : Nat} (v : Nat → V) (hn : n = 2) (hjk : j ≠ k) (hl : xs.length ≤ 40000)
    (h : ∀ H1, Ex H H1 → ∀ Q : List V → Hp → Prop, (∀ a c H2, Ex H1 H2 → SqE K H2 a xs → SqE K H2 c ys → Q [.ref a, .ref c] H2) → ta σ H1 Q)
    (he : ∀ i x y H', xs[i]? = some x → ys[i]? = some y → Ex H H' → Ev te ((σ.set j (some x)).set k (some y)) H' (v i)) :
    EvL (tLc (iZipE K ta) (gSeq K n (gCons (gName j) (gCons (gName k) gNil))) tYes te [j, k]) σ H ((List.range (min xs.length ys.length)).map v) := fun H1 e Q q =>
  h H1 e _ fun a c H2 e2 s1 s2 => by
    obtain ⟨b, q1⟩ := SqB.of s1
    obtain ⟨b', q2⟩ := SqB.of s2
    refine ⟨b, b', a, c, xs, ys, rfl, q1, q2, fun D' hD => ?_⟩
    refine lc_gen walk_zs (fun m H' acc => acc = (List.range m).map v) (by omega) hD (fun _ _ _ _ _ _ r => r) rfl (fun H ex => ⟨SqB.ex q1 ex, SqB.ex q2 ex⟩) ?_ ?_
    · intro i x Ha Hb acc hi ex y hR Qy Qn hy hn'
      obtain ⟨T, u1, u2, rfl, hT, rfl, h1, h2⟩ := y
      have e3 := Ex.new hT (o := .tup [u1, u2])
      subst hn
      refine ⟨T, _, rfl, .inl (SqT.of upd_same), rfl, _, _, rfl, _, _, rfl, rfl, ?_⟩
      rw [wipe_two hjk]
      refine ⟨wipe_two' hjk, yes_then (he i u1 u2 _ h1 h2 (((e.trans e2).trans ex).trans e3) _ (Ex.refl _) _ fun H4 e4 => hy _ _ (e3.trans e4) ?_)⟩
      rw [hR, List.range_succ, List.map_append]
      rfl
    · intro H4 acc e4 hD4 hR
      exact q D' H4 (ex_fresh e2 hD) (e2.trans e4) (by rw [hD4, hR])
end Pu
set_option Elab.async false
set_option linter.all false
set_option maxRecDepth 100000
set_option maxHeartbeats 4000000
namespace Pu
open PySem PySem.Spec PyProof.Rows L2 GxR Evl
variable {K : PySem.W.Frag} {Z : Tx} {M : List Addr} {te : TE} {ta : TA} {σ : L2.St} {H H' H1 : Hp} {acc ys : List V} {p D b : Addr} {j : Nat}
theorem Go.bend (g : Go Z M H H1) (n : H D = none) (hD : H1 D = some (.lst acc)) : Go Z M H (upd H1 D (.lst ys)) := by
  have g2 := g.ok.list hD (H' := upd H1 D (.lst ys)) upd_same fun b o hb e => by rw [upd_ne hb]; exact e
  refine ⟨fun b o hm ht e => ?_, fun b e => g.fr b (g2.fr b e), g2.ok⟩
  rw [upd_ne (ne_of_none e n)]
  exact g.kp b o hm ht e
theorem Go.bendD (h : Z.Ok H1) (hD : H1 D = some (.lst acc)) (hm : D ∈ M) : Go Z M H1 (upd H1 D (.lst ys)) :=
  (h.list hD (H' := upd H1 D (.lst ys)) upd_same fun b o hb e => by rw [upd_ne hb]; exact e).mono fun b hb => by rw [List.mem_singleton.mp hb]; exact hm
theorem BoxAt.ne' (hb : BoxAt H p) (n : H b = none) : b ≠ p := fun z => by
  obtain ⟨g, s, h, _⟩ := hb
  rw [z, h] at n
  cases n
theorem BoxAt.ls (hb : BoxAt H p) : Ls [p] H := by
  obtain ⟨g, s, h, _⟩ := hb
  exact Ls.one h
theorem kp_tup {q : Addr} {xs : List V} (l : Ls M H) (h : H q = some (.tup xs)) : Kp Z M (fun H => H q = some (.tup xs)) H := kp_at (fun hm => by
  obtain ⟨ys, e⟩ := l q hm
  rw [h] at e
  cases e) (fun ps z => by cases z) h
theorem Ls.cons (h : H p = some (.lst acc)) (l : Ls M H) : Ls (p :: M) H := fun m hm => by
  rcases List.mem_cons.mp hm with rfl | hm
  · exact ⟨_, h⟩
  · exact l m hm
/-- [te for _ in range(n)] where te draws from the box at p -/
theorem lc_box (F : V → Hp → Prop) (N : Nat → Prop) (hz : Z.Ok H)
    (h : ∀ Q' : List V → Hp → Prop, (∀ (n : Nat) H0, n ≤ 1000 → N n → Go Z [p] H H0 → BoxAt H0 p → Q' [.int (n : Int)] H0) → ta σ H Q')
    (he : ∀ (i : Nat) (D : Addr) (acc : List V) H', Go Z [p] H H' → BoxAt H' p → H' D = some (.lst acc) → D ≠ p → ∀ Q' : VK, (∀ y H'', Go Z [p] H' H'' → BoxAt H'' p → Kp Z [p, D] (F y) H'' → Q' y H'') → te (σ.set j (some (.int (i : Int)))) H' Q')
    {Q : VK} (k : ∀ (D : Addr) (n : Nat) (acc : List V) H4, N n → acc.length = n → H D = none → Go Z [p] H H4 → BoxAt H4 p → H4 D = some (.lst acc) → Kp Z [p] (fun H => ∀ y ∈ acc, F y H) H4 → D ≠ p → Q (.ref D) H4) :
    tLc (iRng1 ta) (gName j) tYes te [j] σ H Q := by
  refine h _ fun n H0 hn hN g0 hb0 => ⟨n, rfl, by omega, by omega, fun D hD => ?_⟩
  have Dp := hb0.ne' hD
  rw [show ((n : Nat) : Int).toNat = n from Int.toNat_natCast n]
  have HDn : H D = none := g0.fr D hD
  have bx : ∀ {H1 : Hp} {ys : List V}, BoxAt H1 p → BoxAt (upd H1 D (.lst ys)) p := fun {H1 ys} hb => by
    obtain ⟨g, s, h1, h2⟩ := hb
    exact ⟨g, s, by rw [upd_ne (Ne.symm Dp)]; exact h1, h2⟩
  refine lc_inv walk_range (fun i H' acc => acc.length = i ∧ Go Z [p] H H' ∧ BoxAt H' p ∧ Kp Z [p, D] (fun H => ∀ y ∈ acc, F y H) H') (by omega) ?_ (fun _ _ _ _ => trivial) ?_ ?_
  · exact ⟨rfl, (g0.then (Ex.new hD)), bx hb0, fun H' _ y hy => absurd hy List.not_mem_nil⟩
  · intro i x Ha Hb acc hi hDa hR yy Qy Qn hy hn'
    obtain ⟨rfl, rfl⟩ := yy
    obtain ⟨hl, g, hb, kp⟩ := hR
    have es : (wipe σ [j]).set j (some (.int (0 + (i : Nat)))) = σ.set j (some (.int (i : Int))) := by
      show (σ.set j none).set j _ = _
      rw [List.set_set, Int.zero_add]
    refine ⟨wipe1, yes_then ?_⟩
    rw [es]
    refine he i D acc _ g hb hDa Dp _ fun y H4 g4 hb4 ky => ?_
    have hD4 : H4 D = some (.lst acc) := g4.kp D _ (fun z => Dp (List.mem_singleton.mp z)) (fun ps z => by cases z) hDa
    refine hy y H4 hD4 ⟨by rw [List.length_append, List.length_singleton, hl], (g.trans g4).bend HDn hD4, bx hb4, ?_⟩
    have st : Go Z [p, D] H4 (upd H4 D (.lst (acc ++ [y]))) := Go.bendD g4.ok hD4 (List.mem_cons_of_mem _ (List.mem_singleton.mpr rfl))
    have k1 := (kp.go (g4.mono fun b hb => by rw [List.mem_singleton.mp hb]; exact List.mem_cons_self ..)).go st
    have k2 := ky.go st
    intro H5 g5 z hz5
    rcases List.mem_append.mp hz5 with h5 | h5
    · exact k1 H5 g5 z h5
    · rw [List.mem_singleton.mp h5]
      exact k2 H5 g5
  · intro H4 acc hD4 hR
    obtain ⟨hl, g, hb, kp⟩ := hR
    exact k D n acc H4 hN hl HDn g hb hD4 (kp.mono fun b hb => by rw [List.mem_singleton.mp hb]; exact List.mem_cons_self ..) Dp
end Pu
set_option Elab.async false
set_option linter.all false
set_option maxRecDepth 100000
set_option maxHeartbeats 4000000
namespace Pu
open PySem PySem.Spec PyProof.Rows L2 GxR Evl
variable {K : PySem.W.Frag} {te tl tr : TE} {ta : TA} {σ : L2.St} {H H' : Hp} {xs : List V} {a : Addr}
theorem ev_callW {sp : Sp} {gV : List V → List V} {vs : List V} {E : XK} {z : V} (h : EvA ta σ H vs) (hs : SpV sp (gV vs) H z) : Ev (tCallW sp gV E ta) σ H z := fun H1 e Q q =>
  h H1 e _ fun H2 e2 => hs H2 (e.trans e2) Q (fun H3 e3 => q H3 (e2.trans e3)) E
theorem rv_neS {t : Str} : RV rNe (.str t) (.str t) H (.bl false) := by
  have := rv_ne (H := H) (x := .str t) (y := .str t) rfl
  rw [decide_eq_true rfl] at this
  exact this
theorem rv_neI {i : Int} : RV rNe (.int i) (.int i) H (.bl false) := by
  have := rv_ne (H := H) (x := .int i) (y := .int i) rfl
  rw [decide_eq_true rfl] at this
  exact this
theorem et_neS {t : Str} (h1 : Ev tl σ H (.str t)) (h2 : Ev tr σ H (.str t)) : EvT (tTest (tOp rNe tl tr)) σ H false := et_test (ev_op h1 h2 rv_neS)
/-- list(a new tuple) -/
theorem el_listU (u : EvU te σ H xs) : EvL (tCB (rListOf K) (tCons te tNil)) σ H xs := fun H1 e Q q =>
  u H1 e _ fun p H2 hp e2 h2 => ⟨p, xs, rfl, .inr (SqT.of h2), fun l hl => q l _ (ex_fresh e2 hl) (e2.trans (Ex.new hl)) upd_same⟩
theorem Sm.bl (b : Bool) : Sm 0 0 (.bool b) := by
  cases b <;> exact ⟨Nat.le_refl _, Nat.le_refl _, by decide +kernel, rfl, rfl⟩
/-- repr of a new list -/
theorem ev_reprL {d : PyData} {n m : Nat} (el : EvL te σ H xs) (h : ∀ p H1, Ex H H1 → H1 p = some (.lst xs) → Dp K H1 (.ref p) d) (hd : isDisplay d = true) (s : Sm n m d) (hn : n ≤ 60) (hm : m ≤ 1000000) : Ev (tCB (rRepr K) (tCons te tNil)) σ H (.str d.shown) :=
  fun H1 e Q q => el H1 e _ fun p H2 _ e2 h2 => rc_repr (h p H2 (e.trans e2) h2) hd s hn hm (q H2 e2)
end Pu
namespace Pu
open PySem PySem.Spec PyProof.Rows L2 GxR Evl
theorem BoxAt.go0 {Z : Tx} {H H' : Hp} {p : Addr} (hb : BoxAt H p) (g : Go Z [] H H') : BoxAt H' p := by
  obtain ⟨gg, ss, b1, b2⟩ := hb
  exact ⟨gg, ss, g.kp _ _ List.not_mem_nil (fun ps z => by cases z) b1, b2⟩
/-- x is not False, x a truth -/
theorem op_isNotF {X : Cx} : OpR X (compareOp .IsNot) (fun x y H Q => ∃ b, x = .bl b ∧ y = .bl false ∧ Q (.bl b) H) := by
  intro pins s σ H x y v u Q I rx ry h
  obtain ⟨b, rfl, rfl, q⟩ := h
  cases (show v = Value.bool b from rx)
  cases (show u = Value.bool false from ry)
  refine wpAny_isNot_plain rfl ?_
  have e : (!(Value.bool b == Value.bool false)) = b := by cases b <;> rfl
  rw [e]
  exact ⟨.bl b, H, I, rfl, q⟩
end Pu
namespace Pu
open PySem PySem.Spec PyProof.Rows L2 GxR Evl
theorem t_cons1 {te : TE} {σ : L2.St} {H : Hp} {Q : List V → Hp → Prop} (h : te σ H fun x H1 => Q [x] H1) : tCons te tNil σ H Q := h
theorem t_callW1 {sp : Sp} {gV : List V → List V} {E : XK} {te : TE} {σ : L2.St} {H : Hp} {Q : VK} (h : te σ H fun x H1 => sp (gV [x]) H1 Q E) : tCallW sp gV E (tCons te tNil) σ H Q := h
theorem t_cb1 {r : List V → Hp → VK → Prop} {te : TE} {σ : L2.St} {H : Hp} {Q : VK} (h : te σ H fun x H1 => r [x] H1 Q) : tCB r (tCons te tNil) σ H Q := h
end Pu
namespace Pu
open PySem PySem.Spec PyProof.Rows L2 GxR Evl
/-- tuple(a new list) -/
theorem eu_tupleL {K : PySem.W.Frag} {te : TE} {σ : L2.St} {H : Hp} {xs : List V} (el : EvL te σ H xs) :
    EvU (tCB (fun xs H Q => ∃ p ys, xs = [V.ref p] ∧ ((SqL K H p ys ∧ ∀ l, H l = none → Q (V.ref l) (upd H l (.tup ys))) ∨ (SqT K H p ys ∧ Q (V.ref p) H))) (tCons te tNil)) σ H xs := fun H1 e Q q =>
  el H1 e _ fun p H2 hp e2 h2 => ⟨p, xs, rfl, .inl ⟨SqL.of h2, fun l hl => q l _ (ex_fresh e2 hl) (e2.trans (Ex.new hl)) upd_same⟩⟩
end Pu
set_option Elab.async false
set_option linter.all false
set_option maxRecDepth 100000
set_option maxHeartbeats 4000000
namespace Pu
open PySem PySem.Spec PyProof.Rows L2 GxR Evl
theorem ch_ok (c : Char) : c.toNat < 0x110000 := by
  have := c.valid
  unfold UInt32.isValidChar Nat.isValidChar at this
  show c.val.toNat < _
  omega
theorem ok_str (s : String) : PyData.strOk (Str.ofString s) = true := by
  rw [Str.ofString_eq_toList]
  unfold PyData.strOk
  rw [List.all_toArray, List.all_eq_true]
  intro x hx
  obtain ⟨c, _, rfl⟩ := List.mem_map.mp hx
  exact decide_eq_true (ch_ok c)
theorem ok_app {a b : Str} (h : PyData.strOk a = true) (k : PyData.strOk b = true) : PyData.strOk (a ++ b) = true := by
  unfold PyData.strOk at *
  show (a.cps ++ b.cps).all _ = true
  rw [Array.all_append, h, k]
  rfl
theorem ok_from : ∀ (ts : List Str) (k : Nat) (acc : Str), PyData.strOk acc = true → (∀ t ∈ ts, PyData.strOk t = true) → PyData.strOk (textFrom k acc ts) = true
  | [], k, acc, h, _ => h
  | t :: r, k, acc, h, ht => ok_from r (k + 1) _ (ok_app (ok_app h (ok_str _)) (ht t (List.mem_cons_self ..))) fun x hx => ht x (List.mem_cons_of_mem _ hx)
theorem ok_join : ∀ ts : List Str, (∀ t ∈ ts, PyData.strOk t = true) → PyData.strOk (Str.join ", " ts) = true
  | [], _ => by decide +kernel
  | [x], h => h x (List.mem_cons_self ..)
  | x :: y :: r, h => by
    show PyData.strOk (x ++ ", " ++ Str.join ", " (y :: r)) = true
    exact ok_app (ok_app (h x (List.mem_cons_self ..)) (ok_str _)) (ok_join (y :: r) fun t ht => h t (List.mem_cons_of_mem _ ht))
mutual
def noStr : PyData → Bool
  | .none | .bool _ | .int _ => true
  | .list xs | .tuple xs => noStrs xs
  | _ => false
def noStrs : List PyData → Bool
  | [] => true
  | x :: xs => noStr x && noStrs xs
end
mutual
theorem ok_shown : ∀ d : PyData, noStr d = true → PyData.strOk d.shown = true
  | .none, _ => ok_str "None"
  | .bool b, _ => by cases b <;> exact ok_str _
  | .int i, _ => ok_str _
  | .list xs, h => ok_app (ok_from _ 0 "[" (ok_str _) (ok_shownAll xs h)) (ok_str _)
  | .tuple xs, h => ok_app (ok_app (ok_str _) (ok_join _ (ok_shownAll xs h))) (ok_str _)
  | .str _, h => nomatch h
  | .dict _, h => nomatch h
theorem ok_shownAll : ∀ ds : List PyData, noStrs ds = true → ∀ t ∈ PyData.shownAll ds, PyData.strOk t = true
  | [], _, t, ht => absurd ht List.not_mem_nil
  | d :: ds, h, t, ht => by
    have h' : (noStr d && noStrs ds) = true := h
    rcases List.mem_cons.mp ht with rfl | ht
    · exact ok_shown d (Bool.and_eq_true_iff.mp h').1
    · exact ok_shownAll ds (Bool.and_eq_true_iff.mp h').2 t ht
end
def dRef (s : Str) : PyData := .tuple [.str "refused", .str s, .bool true]
theorem dRef_lay {s : Str} (h : PyData.strOk s = true) : PyData.canLay0 (dRef s) = true := by
  unfold dRef
  simp only [PyData.canLay0, PyData.canLayAll0, h, Bool.and_true]
  exact ok_str _
theorem dRef_shaped {s : Str} (h : PyData.strOk s = true) : SeqAt.shaped (dRef s) = true := by
  have h2 : PyData.depth (dRef s) = 1 := by
    unfold dRef
    simp [PyData.depth, PyData.depthAll]
  unfold SeqAt.shaped
  rw [dRef_lay h, h2]
  rfl
theorem dRef_eqv {s : Str} (h : PyData.strOk s = true) : PyData.eqv (dRef s) (dRef s) = true := SeqAt.eqv_refl_plain _ (PyData.plain_of_canLay0 _ (dRef_lay h))
theorem lam_pass {X : Cx} {A : Around} {outer : List Env} {s : Shared} {H : Hp} {E : XK} {scope : Scope} {f c' : Addr} : Passes (L2.CX X.prog X.w) (LamX.lamCx X A outer s H E scope f c') E :=
  passes_call (takes_of (X := LamX.lamCx X A outer s H E scope f c') rfl rfl rfl rfl) fun _ _ _ _ h => h
end Pu
set_option Elab.async false
set_option linter.all false
set_option maxRecDepth 100000
set_option maxHeartbeats 4000000
/-! sum, min, max of a tuple or list of ints -/
namespace Pu
open PySem PySem.Spec PyProof.Rows L2 GxR Evl
section
variable {prog : Program} {w : World} {A : Around} {E : Value → Shared → Prop} {s : Shared} {l : Addr} {xs : Array (Int × Tok)}
theorem iter_intTup {Q : Value → Shared → Prop} (hl : s.heap.IsTuple l (intItems xs))
    (h : ∀ s₂ : Shared, s₂ = { s with heap := s.heap.push { cls := .type "tuple_iterator", data := .fields #[.ref l, .int 0 0] } } →
      (s₂.heap.IsTupleIter s.heap.objs.size l 0 ∧ s₂.heap.IsTuple l (intItems xs)) → (∀ b ∈ [s.heap.objs.size, l], b < s₂.heap.objs.size) → l ≠ s.heap.objs.size → Q (.ref s.heap.objs.size) s₂) :
    wpAny (model prog w) A (pyIter (.ref l)) Q E s := by
  have hlt : l < s.heap.objs.size := by obtain ⟨_, e, _⟩ := hl; exact Heap.lt_size e
  refine wpAny_pyIter_tuple hl (h _ rfl ⟨⟨_, Heap.get?_push_size _ rfl, rfl, rfl⟩, hl.push _⟩ (fun b hb => ?_) (Nat.ne_of_lt hlt))
  show b < (s.heap.push _).objs.size
  rw [Heap.size_push]
  rcases List.mem_cons.mp hb with rfl | hb
  · exact Nat.lt_succ_self _
  · rcases List.mem_cons.mp hb with rfl | hb
    · exact Nat.lt_succ_of_lt hlt
    · cases hb
theorem old_keptT {h' : Heap} (hk : ∀ b o, b ∉ [s.heap.objs.size] → (s.heap.push { cls := .type "tuple_iterator", data := .fields #[.ref l, .int 0 0] }).get? b = some o → h'.get? b = some o) :
    ∀ b o, s.heap.get? b = some o → h'.get? b = some o := fun b o e => by
  refine hk b o (fun hm => ?_) (Heap.get?_push_of_some _ e)
  rcases List.mem_cons.mp hm with e1 | hm
  · exact absurd (e1 ▸ Heap.lt_size e) (Nat.lt_irrefl _)
  · cases hm
theorem max_intTup {Q : Value → Shared → Prop} (hh : A.handled = none) (hl : s.heap.IsTuple l (intItems xs)) (hne : 0 < xs.size)
    (h : ∀ v h' tk, (intItems xs)[argBest (fun i j => decide (numAt xs i > numAt xs j)) (xs.size - 1)]? = some v → (∀ b o, s.heap.get? b = some o → h'.get? b = some o) → Q v { s with heap := h', toks := tk }) :
    wpAny (model prog w) A (call (.builtin "max") [.ref l]) Q E s := by
  refine call_max_walk (iter_intTup hl fun s₂ e st hfp hlI => ?_)
  subst e
  refine ⟨_, _, _, _, _, _, _, rfl, Walks.tuple (A := A.in1) hh _ l hlI (intItems xs), st, hfp, by simpa [intItems] using hne, CmpOf.ints_gt (numAt xs) (fun _ _ => intItems_at), fun v h' tk hP hk => ?_⟩
  exact h v h' tk (by simpa [intItems] using hP) (old_keptT hk)
theorem min_intTup {Q : Value → Shared → Prop} (hh : A.handled = none) (hl : s.heap.IsTuple l (intItems xs)) (hne : 0 < xs.size)
    (h : ∀ v h' tk, (intItems xs)[argBest (fun i j => decide (numAt xs i < numAt xs j)) (xs.size - 1)]? = some v → (∀ b o, s.heap.get? b = some o → h'.get? b = some o) → Q v { s with heap := h', toks := tk }) :
    wpAny (model prog w) A (call (.builtin "min") [.ref l]) Q E s := by
  refine call_min_walk (iter_intTup hl fun s₂ e st hfp hlI => ?_)
  subst e
  refine ⟨_, _, _, _, _, _, _, rfl, Walks.tuple (A := A.in1) hh _ l hlI (intItems xs), st, hfp, by simpa [intItems] using hne, CmpOf.ints_lt (numAt xs) (fun _ _ => intItems_at), fun v h' tk hP hk => ?_⟩
  exact h v h' tk (by simpa [intItems] using hP) (old_keptT hk)
theorem sum_intTup {Q : Value → Shared → Prop} (hh : A.handled = none) (hl : s.heap.IsTuple l (intItems xs))
    (h : ∀ h' tk t', (∀ b o, s.heap.get? b = some o → h'.get? b = some o) → Q (.int (preSum (numAt xs) xs.size) t') { s with heap := h', toks := tk }) :
    wpAny (model prog w) A (call (.builtin "sum") [.ref l]) Q E s := by
  refine call_sum_walkG (iter_intTup hl fun s₂ e st hfp hlI => ?_)
  subst e
  refine ⟨_, _, _, _, _, _, numAt xs, rfl, Walks.tuple (A := A.in1) hh _ l hlI (intItems xs), st, hfp, (fun _ _ => intItems_at), fun h' tk t' hk => ?_⟩
  have := h h' tk t' (old_keptT hk)
  simpa [intItems] using this
end
section
variable {prog : Program} {w : World} {A : Around} {E : Value → Shared → Prop} {s : Shared} {l : Addr} {its : List Value} {ns : List Int} {Q : Value → Shared → Prop}
theorem sum_rawT (hh : A.handled = none) (hl : s.heap.IsTuple l its.toArray) (hi : IntsAre its ns)
    (h : ∀ h' tk t', (∀ b o, s.heap.get? b = some o → h'.get? b = some o) → Q (.int ns.sum t') { s with heap := h', toks := tk }) : wpAny (model prog w) A (call (.builtin "sum") [.ref l]) Q E s := by
  obtain ⟨xs, e⟩ := hi.allInts.items
  have hn : numsOf (intItems xs).toList = ns := by rw [← e]; exact hi.numsOf
  rw [nums_intItems] at hn
  rw [e] at hl
  refine sum_intTup hh hl fun h' tk t' hk => ?_
  have := h h' tk t' hk
  rw [preSum_eq, List.take_of_length_le (by simp), hn]; exact this
theorem max_rawT (hh : A.handled = none) (hl : s.heap.IsTuple l its.toArray) (hi : IntsAre its ns) (hne : 0 < ns.length)
    (h : ∀ h' tk M t', (∀ b o, s.heap.get? b = some o → h'.get? b = some o) → M ∈ ns → (∀ a, a ∈ ns → a ≤ M) → Q (.int M t') { s with heap := h', toks := tk }) : wpAny (model prog w) A (call (.builtin "max") [.ref l]) Q E s := by
  obtain ⟨xs, e⟩ := hi.allInts.items
  have hn : numsOf (intItems xs).toList = ns := by rw [← e]; exact hi.numsOf
  rw [nums_intItems] at hn
  subst hn
  rw [e] at hl
  have hsz : 0 < xs.size := by simpa using hne
  refine max_intTup hh hl hsz fun v h' tk hv hk => ?_
  obtain ⟨t, rfl⟩ := intItems_at hv
  obtain ⟨h1, h2⟩ := argBest_gt (numAt xs) (xs.size - 1)
  refine h h' tk _ t hk ?_ fun a ha => ?_
  · rw [numAt_eq]; exact PySem.getD_mem (by rw [List.length_map, Array.length_toList]; omega)
  · obtain ⟨j, hj, rfl⟩ := mem_getD ha
    rw [List.length_map, Array.length_toList] at hj
    rw [← numAt_eq]; exact h2 j (by omega)
theorem min_rawT (hh : A.handled = none) (hl : s.heap.IsTuple l its.toArray) (hi : IntsAre its ns) (hne : 0 < ns.length)
    (h : ∀ h' tk M t', (∀ b o, s.heap.get? b = some o → h'.get? b = some o) → M ∈ ns → (∀ a, a ∈ ns → M ≤ a) → Q (.int M t') { s with heap := h', toks := tk }) : wpAny (model prog w) A (call (.builtin "min") [.ref l]) Q E s := by
  obtain ⟨xs, e⟩ := hi.allInts.items
  have hn : numsOf (intItems xs).toList = ns := by rw [← e]; exact hi.numsOf
  rw [nums_intItems] at hn
  subst hn
  rw [e] at hl
  have hsz : 0 < xs.size := by simpa using hne
  refine min_intTup hh hl hsz fun v h' tk hv hk => ?_
  obtain ⟨t, rfl⟩ := intItems_at hv
  obtain ⟨h1, h2⟩ := argBest_lt (numAt xs) (xs.size - 1)
  refine h h' tk _ t hk ?_ fun a ha => ?_
  · rw [numAt_eq]; exact PySem.getD_mem (by rw [List.length_map, Array.length_toList]; omega)
  · obtain ⟨j, hj, rfl⟩ := mem_getD ha
    rw [List.length_map, Array.length_toList] at hj
    rw [← numAt_eq]; exact h2 j (by omega)
end
section
variable {X : Cx}
/-- sum, max, min of a tuple or list of ints -/
def rSumE (K : PySem.W.Frag) : List V → Hp → VK → Prop := fun vs H Q => ∃ (a : Addr) (ns : List Int), vs = [V.ref a] ∧ SqE K H a (ns.map V.int) ∧ Q (.int ns.sum) H
def rMaxE (K : PySem.W.Frag) : List V → Hp → VK → Prop := fun vs H Q => ∃ (a : Addr) (ns : List Int), vs = [V.ref a] ∧ SqE K H a (ns.map V.int) ∧ 0 < ns.length ∧ ∀ m, m ∈ ns → (∀ y, y ∈ ns → y ≤ m) → Q (.int m) H
def rMinE (K : PySem.W.Frag) : List V → Hp → VK → Prop := fun vs H Q => ∃ (a : Addr) (ns : List Int), vs = [V.ref a] ∧ SqE K H a (ns.map V.int) ∧ 0 < ns.length ∧ ∀ m, m ∈ ns → (∀ y, y ∈ ns → m ≤ y) → Q (.int m) H
theorem isTuple_of {h : Heap} {a : Addr} {its : Array Value} (t : IsTup h a its) : h.IsTuple a its := by
  obtain ⟨o, e, c, n, d⟩ := t
  exact ⟨o, e, c, n, d⟩
theorem cr_sumE (hc : X.calm = true) : CallR X (.builtin "sum") (rSumE X.K) := by
  intro pins s σ H vs us Q I r h
  obtain ⟨a, ns, rfl, hs | hs, q⟩ := h
  · obtain ⟨its, rv, hl, _⟩ := I.tuple hs
    rw [Vals.ref1 r]
    exact sum_rawT (I.ok.hd hc) (isTuple_of hl) rv.ints fun h' tk t' hk => ⟨.int _, H, I.kept hk, ⟨_, rfl⟩, q⟩
  · exact cr_sum hc pins s σ H _ us Q I r ⟨a, ns, rfl, hs, q⟩
theorem cr_maxE (hc : X.calm = true) : CallR X (.builtin "max") (rMaxE X.K) := by
  intro pins s σ H vs us Q I r h
  obtain ⟨a, ns, rfl, hs | hs, hne, q⟩ := h
  · obtain ⟨its, rv, hl, _⟩ := I.tuple hs
    rw [Vals.ref1 r]
    exact max_rawT (I.ok.hd hc) (isTuple_of hl) rv.ints hne fun h' tk m t' hk h1 h2 => ⟨.int _, H, I.kept hk, ⟨_, rfl⟩, q m h1 h2⟩
  · exact cr_max hc pins s σ H _ us Q I r ⟨a, ns, rfl, hs, hne, q⟩
theorem cr_minE (hc : X.calm = true) : CallR X (.builtin "min") (rMinE X.K) := by
  intro pins s σ H vs us Q I r h
  obtain ⟨a, ns, rfl, hs | hs, hne, q⟩ := h
  · obtain ⟨its, rv, hl, _⟩ := I.tuple hs
    rw [Vals.ref1 r]
    exact min_rawT (I.ok.hd hc) (isTuple_of hl) rv.ints hne fun h' tk m t' hk h1 h2 => ⟨.int _, H, I.kept hk, ⟨_, rfl⟩, q m h1 h2⟩
  · exact cr_min hc pins s σ H _ us Q I r ⟨a, ns, rfl, hs, hne, q⟩
end
end Pu
set_option Elab.async false
set_option linter.all false
set_option maxRecDepth 100000
set_option maxHeartbeats 4000000
namespace Pu
open PySem PySem.Spec PyProof.Rows L2 GxR Evl
theorem rv_ixQ {K : PySem.W.Frag} {H : Hp} {p : Addr} {xs : List V} {i : Int} {v : V} (h : SqE K H p xs) (ha : atI xs i = some v) : RV (rIx K) (.ref p) (.int i) H v := fun H1 e Q q =>
  (SqE.ex h e).elim (fun h => .inr (.inl ⟨p, xs, i, v, rfl, rfl, h, ha, q H1 (Ex.refl H1)⟩)) fun h => .inl ⟨p, xs, i, v, rfl, rfl, h, ha, q H1 (Ex.refl H1)⟩
theorem Paired.atL {α β : Type} {F : α → β → Prop} : ∀ {l : List α} {m : List β} {i : Nat} {x : α}, Paired F l m → l[i]? = some x → ∃ y, m[i]? = some y ∧ F x y
  | _, _, _, _, .nil, e => by cases e
  | _, _, 0, _, .cons r _, e => by cases e; exact ⟨_, rfl, r⟩
  | _, _, i + 1, _, .cons _ t, e => Paired.atL (i := i) t e
section
variable {K : PySem.W.Frag} {te : TE} {tt : TT} {σ : L2.St} {H H' : Hp} {xs : List V} {a q : Addr} {i j k : Nat}
/-- a pair as V -/
def PrE (K : PySem.W.Frag) (H : Hp) (p : Nat × Nat) (v : V) : Prop := ∃ b, v = .ref b ∧ SqE K H b [.int (p.1 : Nat), .int (p.2 : Nat)]
theorem PrE.ex {p : Nat × Nat} {v : V} (h : PrE K H p v) (e : Ex H H') : PrE K H' p v := by
  obtain ⟨b, rfl, s⟩ := h
  exact ⟨b, rfl, s.ex e⟩
/-- [.. for x, y in pairs if ..] -/
theorem el_lcP {tl : TE} {n : Nat} (L : List (Nat × Nat)) (f : Nat × Nat → Bool) (g : Nat × Nat → V) (hn : n = 2) (hjk : j ≠ k) (hz : L.length ≤ 40000) (h : Es K tl σ H xs) (pr : Paired (PrE K H) L xs)
    (ht : ∀ p H', Ex H H' → EvT tt ((σ.set j (some (.int (p.1 : Nat)))).set k (some (.int (p.2 : Nat)))) H' (f p))
    (he : ∀ p H', Ex H H' → f p = true → Ev te ((σ.set j (some (.int (p.1 : Nat)))).set k (some (.int (p.2 : Nat)))) H' (g p)) :
    EvL (tLc (iSeq K tl) (gSeq K n (gCons (gName j) (gCons (gName k) gNil))) tt te [j, k]) σ H ((L.filter f).map g) := fun H1 e Q q =>
  h H1 e _ fun a H2 e2 sq => ⟨a, xs, rfl, sq, fun J Gd wk hG D' hD => by
    have hxl : L.length = xs.length := Paired.length pr
    refine lc_gen wk (fun m H' acc => acc = ((L.take m).filter f).map g) (by omega) hD (fun _ _ _ _ _ _ r => r) rfl hG ?_ ?_
    · intro m x Ha Hb acc hi ex y hR Qy Qn hy hn'
      obtain ⟨rfl, hx⟩ := y
      obtain ⟨p, hpL, hp⟩ := Paired.at pr hx
      have e0 := (e.trans e2).trans ex
      obtain ⟨b, rfl, sb⟩ := hp.ex e0
      subst hn
      have tk : L.take (m + 1) = L.take m ++ [p] := by rw [List.take_add_one, hpL]; rfl
      refine ⟨b, _, rfl, sb, rfl, _, _, rfl, _, _, rfl, rfl, ?_⟩
      rw [wipe_two hjk]
      refine ⟨wipe_two' hjk, ?_⟩
      refine ht p _ e0 _ (Ex.refl _) _ fun H3 e3 => ?_
      cases hf : f p with
      | true =>
        rw [if_pos rfl]
        refine he p _ (e0.trans e3) hf _ (Ex.refl _) _ fun H4 e4 => hy _ _ (e3.trans e4) ?_
        rw [tk, hR, List.filter_append, List.map_append, List.filter_cons, if_pos hf]
        rfl
      | false =>
        rw [if_neg (by decide)]
        refine hn' _ e3 ?_
        rw [tk, hR, List.filter_append, List.map_append, List.filter_cons, if_neg (by rw [hf]; decide)]
        simp
    · intro H4 acc e4 hD4 hR
      rw [← hxl, List.take_length] at hR
      exact q D' H4 (ex_fresh e2 hD) (e2.trans e4) (by rw [hD4, hR])⟩
theorem filter_yes {α : Type} (L : List α) : L.filter (fun _ => true) = L := List.filter_eq_self.mpr fun _ _ => rfl
end
/-! ### what two rules give -/
theorem pe_both {X : Cx} {e : Expr} {t u : TE} (h : PE X e t) (k : PE X e u) : PE X e (fun σ H Q => t σ H Q ∨ u σ H Q) :=
  ⟨fun pins s σ H Q I z => z.elim (fun z => h.run pins s σ H Q I z) fun z => k.run pins s σ H Q I z⟩
/-! ### o[::step], the step -1 told by an expression -/
def tBack (K : PySem.W.Frag) (te ts : TE) : TE := fun σ H Q => te σ H fun x H1 => tPart ts σ H1 fun z H2 => z = some (-1) ∧ ∃ a xs, x = .ref a ∧ SqL K H2 a xs ∧ ∀ p, H2 p = none → Q (.ref p) (upd H2 p (.lst xs.reverse))
theorem pe_back {X : Cx} {e st : Expr} {te ts : TE} {p3 pos : Pos} (he : PE X e te) (hst : PE X st ts)
    (hb : ∀ v i : Value, subscripted (.Slice none none (some st) p3) false v i = operate [v, i] (getItem v i) := by intros; with_unfolding_all rfl) : PE X (.Subscript e (.Slice none none (some st) p3) pos) (tBack X.K te ts) := by
  refine ⟨fun pins s0 σ H0 Q I0 h0 => Subscript_ (thn (he.run pins s0 σ H0 _ I0 h0) fun v s1 ⟨x, H1, I1, r1, h1⟩ => wpAny_Slice ?_)⟩
  refine thn (po_none.run pins s1 σ H1 (fun o Hn => o = none ∧ Hn = H1) I1 ⟨rfl, rfl⟩) fun vl s2 ⟨l, H2, I2, pl, h2⟩ => ?_
  obtain ⟨rfl, rfl⟩ := h2
  refine thn (po_none.run pins s2 σ H2 (fun o Hn => o = none ∧ Hn = H2) I2 ⟨rfl, rfl⟩) fun vu s3 ⟨u, H3, I3, pu, h3⟩ => ?_
  obtain ⟨rfl, rfl⟩ := h3
  refine thn ((po_some hst).run pins s3 σ H3 _ I3 h1) fun vz s4 ⟨z, H4, I4, pz, h4⟩ => ?_
  obtain ⟨rfl, b, ys, rfl, sb, kk⟩ := h4
  cases r1
  have I5 := I4.kept (h' := s4.heap.push { cls := .type "slice", data := .fields #[vl, vu, vz] }) (t' := s4.toks) fun c o e => Heap.get?_push_of_some _ e
  obtain ⟨us, ru, pb, zb⟩ := I5.list sb
  refine tail_any pb.isList.typeIs PySem.slot_list_getitem.lookup ?_ (hb _ _)
  refine wpAny_getItem_list_slice pb.isList (Heap.IsSliceOf.new _ vl vu vz) pl pu pz (by decide) ?_ (by rw [List.size_toArray, ← ru.length]; exact zb)
  rw [PySem.W.krv_pick]
  exact ⟨.ref _, _, I5.laid (o := .lst ys.reverse) (t' := s4.toks) (fun c o e => Heap.get?_push_of_some _ e) (Nat.le_refl _) ⟨by rw [List.length_reverse]; exact zb, _, 0, ru.reverse, Heap.get?_push_size _ rfl⟩, rfl, kk _ (I5.hok.fresh (Nat.le_refl _))⟩
section
variable {ta tb tc : TE} {σ : L2.St} {H : Hp} {i j : Int} {r r' : R2} {x y z : V} {k k' : Bool}
theorem rc_max2 : RC (fun xs H Q => ∃ i j, xs = [V.int i, .int j] ∧ Q (.int (if j > i then j else i)) H) [.int i, .int j] H (.int (max i j)) := fun H1 _ Q q => ⟨i, j, rfl, by
  rw [show (if j > i then j else i) = max i j by split <;> omega]
  exact q H1 (Ex.refl H1)⟩
theorem rc_min2 : RC (fun xs H Q => ∃ i j, xs = [V.int i, .int j] ∧ Q (.int (if j < i then j else i)) H) [.int i, .int j] H (.int (min i j)) := fun H1 _ Q q => ⟨i, j, rfl, by
  rw [show (if j < i then j else i) = min i j by split <;> omega]
  exact q H1 (Ex.refl H1)⟩
theorem ev_chainQ (ha : Ev ta σ H x) (hb : Ev tb σ H y) (hr : RV r x y H (.bl k)) (hc : k = true → Ev tc σ H z) (hr' : k = true → RV r' y z H (.bl k')) : Ev (tChain r r' ta tb tc) σ H (.bl (k && k')) := fun H1 e Q q =>
  ha H1 e _ fun H2 e2 => hb H2 (e.trans e2) _ fun H3 e3 => hr H3 ((e.trans e2).trans e3) _ fun H4 e4 => ⟨k, rfl, by
    have e24 := (e2.trans e3).trans e4
    cases k with
    | false => exact q H4 e24
    | true => exact hc rfl H4 (e.trans e24) _ fun H5 e5 => hr' rfl H5 (e.trans (e24.trans e5)) _ fun H6 e6 => q H6 ((e24.trans e5).trans e6)⟩
end
/-! ### short names without a twin -/
theorem ec {ta : TE} {σ : L2.St} {H : Hp} {x : V} {tr : TA} {vs : List V} (h : Ev ta σ H x) (hr : EvA tr σ H vs) : EvA (tCons ta tr) σ H (x :: vs) := Evl.ea_cons h hr
theorem ez {σ : L2.St} {H : Hp} : EvA tNil σ H [] := Evl.ea_nil
theorem s_parA {i j : Nat} {ta : TA} {u v : V} {D : Ends} {σ : L2.St} {H : Hp} (h : EvA ta σ H [u, v]) (k : ∀ H1, Ex H H1 → D.nx ((σ.set i (some u)).set j (some v)) H1) : tPar i j ta D σ H := h H (Ex.refl H) _ fun H1 e => ⟨u, v, rfl, k H1 e⟩
theorem q_parA {i j : Nat} {ta : TA} {tz : TS} {u v : V} {D : Ends} {σ : L2.St} {H : Hp} (h : EvA ta σ H [u, v]) (k : ∀ H1, Ex H H1 → tz D ((σ.set i (some u)).set j (some v)) H1) : tSeq (tPar i j ta) tz D σ H := s_parA (D := { D with nx := tz D }) h k
theorem rc_lenE' {K : PySem.W.Frag} {H : Hp} {a : Addr} {xs : List V} (h : SqE K H a xs) : RC (fun zs H Q => ∃ p ys, zs = [V.ref p] ∧ (SqL K H p ys ∨ SqT K H p ys) ∧ Q (.int (ys.length : Int)) H) [.ref a] H (.int (xs.length : Int)) := fun H1 e Q q => ⟨a, xs, rfl, Or.symm (h.ex e), q H1 (Ex.refl H1)⟩
theorem el_cat2 {ta tb : TE} {σ : L2.St} {H : Hp} {xs ys : List V} (ha : EvL ta σ H xs) (hb : EvL tb σ H ys) (hz : xs.length + ys.length ≤ 100000) : EvL (tOp rCat ta tb) σ H (xs ++ ys) := fun H1 e Q q =>
  ha H1 e _ fun p H2 hp e2 h2 => hb H2 (e.trans e2) _ fun p' H3 hp' e3 h3 => ⟨p, p', xs, ys, rfl, rfl, e3 _ _ h2, h3, by show _ ≤ 2 ^ 24; omega, fun r hr => q r _ (fresh_back (e2.trans e3) hr) ((e2.trans e3).trans (Ex.new hr)) upd_same⟩
theorem rv_eqI2 {H : Hp} {i j : Int} : RV rEq (.int i) (.int j) H (.bl (decide (i = j))) := by
  have e : decide (i = j) = decide (V.int i = V.int j) := decide_eq_decide.mpr ⟨fun h => by rw [h], fun h => by cases h; rfl⟩
  rw [e]
  exact rv_eq rfl
theorem rv_neI2 {H : Hp} {i j : Int} : RV rNe (.int i) (.int j) H (.bl (decide (i ≠ j))) := by
  have e : decide (i ≠ j) = !decide (V.int i = V.int j) := by
    rw [decide_not]
    congr 1
    exact decide_eq_decide.mpr ⟨fun h => by rw [h], fun h => by cases h; rfl⟩
  rw [e]
  exact fun H1 e Q q => ⟨rfl, q H1 (Ex.refl H1)⟩
/-- a block's promise, its ghosts told later -/
theorem tis_any {ι : Type} {X : Cx} {l : List Stmt} {A B : ι → Nat → L2.St → Hp → Prop} (h : ∀ x, Tis X l (A x) (B x)) : ∃ t, PSs X l t ∧ ∀ x i D σ H, A x i σ H → (∀ σ' H', B x i σ' H' → D.nx σ' H') → t D σ H :=
  ⟨fun D σ H => ∃ x i, A x i σ H ∧ ∀ σ' H', B x i σ' H' → D.nx σ' H', ⟨fun pins s σ H D I ⟨x, i, h1, h2⟩ => by
    obtain ⟨t, k1, k2⟩ := h x
    exact k1.run pins s σ H D I (k2 i D σ H h1 h2)⟩, fun x i D σ H h1 h2 => ⟨x, i, h1, h2⟩⟩
theorem el_catV {ta tb : TE} {σ : L2.St} {H : Hp} {D : Addr} {xs ys : List V} (ha : Ev ta σ H (.ref D)) (hD : H D = some (.lst xs)) (hb : EvL tb σ H ys) (hz : xs.length + ys.length ≤ 100000) : EvL (tOp rCat ta tb) σ H (xs ++ ys) := fun H1 e Q q =>
  ha H1 e _ fun H2 e2 => hb H2 (e.trans e2) _ fun p' H3 hp' e3 h3 => ⟨D, p', xs, ys, rfl, rfl, ((e.trans e2).trans e3) _ _ hD, h3, by show _ ≤ 2 ^ 24; omega, fun r hr => q r _ (fresh_back (e2.trans e3) hr) ((e2.trans e3).trans (Ex.new hr)) upd_same⟩
theorem rv_notInD {K : PySem.W.Frag} {H : Hp} {x y : V} {d : PyData} {ds : List PyData} (hx : ∀ H', Ex H H' → Dp K H' x d) (hy : ∀ H', Ex H H' → Dp K H' y (.list ds)) (s1 : SeqAt.shaped d = true) (s2 : SeqAt.shaped (.list ds) = true) : RV (rNotInD K) x y H (.bl (!ds.any fun z => PyData.eqv z d)) := fun H1 e Q q =>
  ⟨d, ds, hx H1 e, hy H1 e, s1, s2, q H1 (Ex.refl H1)⟩
theorem paired_at {α β : Type} {F : α → β → Prop} {L : List α} {xs : List β} {d : α} {e : β} (h : Paired F L xs) : ∀ is : List Nat, (∀ i ∈ is, i < L.length) → Paired F (is.map fun i => L.getD i d) (is.map fun i => xs.getD i e)
  | [], _ => .nil
  | i :: is, hi => .cons (by
      have l := hi i (List.mem_cons_self ..)
      obtain ⟨y, hy, f⟩ := Paired.atL h (List.getElem?_eq_getElem l)
      show F (L.getD i d) (xs.getD i e)
      rw [List.getD_eq_getElem?_getD, List.getElem?_eq_getElem l, List.getD_eq_getElem?_getD, hy]
      exact f) (paired_at h is fun j hj => hi j (List.mem_cons_of_mem _ hj))
/-- a block whose end says True -/
def Te (X : Cx) (l : List Stmt) (A : Nat → L2.St → Hp → Prop) : Prop := ∃ t, PSs X l t ∧ ∀ i D σ H, A i σ H → (∀ H', D.rt (.bl true) H') → t D σ H
theorem Te.cons {X : Cx} {st : Stmt} {l : List Stmt} {A B : Nat → L2.St → Hp → Prop} (h : Ti X st A B) (k : Te X l B) : Te X (st :: l) A := by
  obtain ⟨t, h1, h2⟩ := h
  obtain ⟨u, k1, k2⟩ := k
  exact ⟨_, pss_cons h1 k1, fun i D σ H a q => h2 i { D with nx := u D } σ H a fun σ' H' b => k2 i D σ' H' b q⟩
theorem Te.one {X : Cx} {st : Stmt} {A : Nat → L2.St → Hp → Prop} (h : ∃ t, PS X st t ∧ ∀ i D σ H, A i σ H → (∀ H', D.rt (.bl true) H') → t D σ H) : Te X [st] A := by
  obtain ⟨t, h1, h2⟩ := h
  exact ⟨_, pss_one h1, h2⟩
end Pu
set_option Elab.async false
set_option linter.all false
set_option maxRecDepth 100000
set_option maxHeartbeats 1000000
namespace Pu
open PySem PySem.Spec PyProof.Rows L2 GxR Evl
section
variable {K : PySem.W.Frag} {Z : Tx} {H H' : Hp}
theorem Go.ofT {T : Addr} {M : List Addr} (h : Z.Ok H) (hT : T ∈ Z.ts) (np : Z.p ∉ Z.ts) (t : ExT T H H') (fr : ∀ b, H' b = none → H b = none) : Go Z M H H' := by
  have nT : Z.p ≠ T := fun z => np (z ▸ hT)
  have kp : ∀ b o, (∀ ps, o ≠ .tbl ps) → H b = some o → H' b = some o := fun b o m e => t.2 b o (TabG.ne (h.gs T hT) e m) e
  refine ⟨fun b o _ m e => kp b o m e, fr, fun S hS => ?_, ?_⟩
  · by_cases z : S = T
    · rw [z]; exact t.1
    · obtain ⟨ps, q, r⟩ := h.gs S hS
      exact ⟨ps, t.2 S _ z q, r⟩
  · obtain ⟨ps, q, r, c⟩ := h.lm
    refine ⟨ps, t.2 _ _ nT q, r, fun pos cv hc => ?_⟩
    obtain ⟨d, e1, e2⟩ := c pos cv hc
    exact ⟨d, e1, kp _ _ (fun ps => LamX.codeO_ne ps) e2⟩
end
theorem shaped_d {d : PyData} (h : PyData.canLay0 d = true) (k : d.depth ≤ 64) : SeqAt.shaped d = true ∧ PyData.eqv d d = true := ⟨by
  unfold SeqAt.shaped
  rw [h, decide_eq_true k]
  rfl, SeqAt.eqv_refl_plain _ (PyData.plain_of_canLay0 _ h)⟩
theorem eqv_pair (p q : Nat × Nat) : PyData.eqv (dPair p) (dPair q) = decide (p = q) := by
  show (decide (((p.1 : Nat) : Int) = ((q.1 : Nat) : Int)) && (decide (((p.2 : Nat) : Int) = ((q.2 : Nat) : Int)) && true)) = _
  rw [Bool.eq_iff_iff, Bool.and_true, Bool.and_eq_true, decide_eq_true_iff, decide_eq_true_iff, decide_eq_true_iff]
  constructor
  · intro h
    exact Prod.ext (by omega) (by omega)
  · intro h
    rw [h]
    exact ⟨rfl, rfl⟩
theorem eqv_pairs : ∀ L M : List (Nat × Nat), PyData.eqvAll (L.map dPair) (M.map dPair) = decide (L = M)
  | [], [] => rfl
  | [], _ :: _ => rfl
  | _ :: _, [] => rfl
  | p :: L, q :: M => by
    show (PyData.eqv (dPair p) (dPair q) && PyData.eqvAll (L.map dPair) (M.map dPair)) = _
    rw [eqv_pair, eqv_pairs L M, Bool.eq_iff_iff, Bool.and_eq_true, decide_eq_true_iff, decide_eq_true_iff, decide_eq_true_iff]
    constructor
    · rintro ⟨rfl, rfl⟩; rfl
    · intro h; cases h; exact ⟨rfl, rfl⟩
theorem eqv_shape (L M : List (Nat × Nat)) : PyData.eqv (dShape L) (dShape M) = decide (L = M) := eqv_pairs L M
end Pu
set_option Elab.async false
set_option linter.all false
set_option maxRecDepth 100000
set_option maxHeartbeats 1000000
namespace K13
open PySem PySem.Spec PyProof.Rows L2 GxR Pu Evl
/-- pairs of numbers: are they the shape of their first row and of so many rows -/
def spShapeP (K : PySem.W.Frag) (T : Addr) : Sp := fun vs H Q _ => ∃ (k l : Nat) (L : List (Nat × Nat)) (x : V), vs = [.int k, .int l, x] ∧ 2 ≤ k ∧ k ≤ 8 ∧ l ≤ 1000 ∧ L.length ≤ 2000 ∧ ShIn K H L x ∧ TabG H T ∧
  ∀ H', ExT T H H' → Q (.bl (decide (Sh.firstOf L l ≤ l ∧ L = Sh.shp k (Sh.firstOf L l) l))) H'
section
variable {P : Program} {w : World} {K : PySem.W.Frag} {mg : Str → Option Value} {base : Heap} {T c : Addr}
variable {fInt fNum fSeq fPar fNN fIK fNK fCO fSF fNR fSh fSt fIS fFO fLS fLG fSA fFB : Addr} {dInt dNum dSeq dPar dNN dIK dNK dCO dSF dNR dSh dSt dIS dFO dLS dLG dSA dFB : FuncData}
theorem ok_is_shapeP {f : Addr} {fd : FuncData} (M : L2.Mod K mg base) (G : Mg mg) (F : FunC K "is_shape" "is_shape" sIsShape f fd c) (TB : TabB base mg c T) (B : Base P w K mg base fNN fNK fSF dNN dNK dSF)
    (F1 : Fns K mg "need_keep" ["keep"] sNeedKeep fNK dNK) (F2 : Fns K mg "need_number" ["value"] sNeedNumber fNN dNN) (F3 : Fns K mg "shape_from" ["keep", "first", "laid"] sShapeFrom fSF dSF)
    (F4 : Fns K mg "is_sequence" ["value"] sIsSequence fSeq dSeq) (F5 : Fns K mg "is_stretch" ["value"] sIsStretch fSt dSt) (G5 : PF P w K mg base 3 fSt dSt ["value"] pStretch) (F6 : Fns K mg "first_of" ["some", "laid"] sFirstOf fFO dFO) (G6 : FnOk P w K mg base CX0 1 fFO dFO ["some", "laid"] (spV (pFirst K))) :
    FnOk P w K mg base CX0 6 f fd ["keep", "laid", "value"] (spShapeP K T) := by
  have G4 : FnOk P w K mg base CX0 1 fSeq dSeq ["value"] (spPure P w base ["value"] pSequence) := (pf_is_sequence M G F4.fn).ok
  refine F.ok scIsShape (fun vs H Q E h => ?_) (fun A outer s H vs Q E hr h => ?_)
  · obtain ⟨k, l, L, x, rfl, _⟩ := h
    rfl
  · obtain ⟨k, l, L, x, rfl, h2, h8, hl, hL, ⟨a, xs, rfl, hq, hp⟩, ht, kk⟩ := h
    have hu : A.units + 3 + 64 < cLine := hr.units
    refine ⟨_, pss_cons (ps_expr (pe_call B.nk (hr.mono (by decide)) (by rfl) F1.mg F1.fn.kp F1.bd .nil pass0 (pa_cons (pv 0) pa_nil)))
      (pss_cons (ps_expr (pe_call B.nn (hr.mono (by decide)) (by rfl) F2.mg F2.fn.kp F2.bd .nil pass0 (pa_cons (pv 1) pa_nil)))
      (pss_cons (ps_if (PW.pt (pw_or (pt_not (pt_val (pe_call G4 (hr.mono (by decide)) (by rfl) F4.mg F4.fn.kp F4.bd .nil pass0 (pa_cons (pv 2) pa_nil))))
          (pw_or1 (pt_not (pt_val (pe_allQ (k := 3) (T := T) (c := c) (hr.mono (by decide)) (by rfl) G.all TB rfl (GenS.of rfl rfl (by decide +kernel) rfl rfl (by decide +kernel)) (pv 2)))))))
        (pss_one (ps_ret pe_bl)) pss_nil)
      (pss_cons (ps_set (i := 3) scIsShape.nd rfl (.inl rfl) (pe_callTy call_tuple_of (by rfl) G.tuple (by decide +kernel) (pa_cons
          (pe_lc (own := [("stretch", 5)]) (te := tCB (rTupleOf K) (tCons (tVar 5) tNil)) (by rfl) scIsShape.nd (pi_seq (pv 2))
            (blkOk_by (own := [("stretch", 5)]) (N := ["keep", "laid", "value", "some", "first", "stretch"]) (sc := defScope sIsShape) (by decide +kernel))
            (fun _ _ _ _ _ => pg_name (i := 5) scIsShape.nd rfl (.inl rfl)) (fun _ _ _ _ _ => pts_nil)
            (fun _ _ _ _ _ => pe_callTy (T := "tuple") call_tuple_of (by rfl) G.tuple (by decide +kernel) (pa_cons (pv 5) pa_nil))) pa_nil)))
      (pss_cons (ps_set (i := 4) scIsShape.nd rfl (.inl rfl) (pe_call G6 (hr.mono (by decide)) (by rfl) F6.mg F6.fn.kp F6.bd .nil pass0 (pa_cons (pv 3) (pa_cons (pv 1) pa_nil))))
      (pss_one (ps_ret (pe_and (pe_cmpR op_le (pv 4) (pv 1) (nomark _)) (pe_one (pe_cmpR (op_eqD hu) (pv 3) (pe_call B.sf hr (by rfl) F3.mg F3.fn.kp F3.bd .nil pass0 (pa_cons (pv 0) (pa_cons (pv 4) (pa_cons (pv 1) pa_nil)))) (nomark _)))))))))), ?_⟩
    have hlen : (L).length = xs.length := Paired.length hp
    have hzl : L.length ≤ 10000 := by omega
    obtain ⟨f, hf⟩ : ∃ f, Sh.firstOf L l = f := ⟨_, rfl⟩
    refine q_drop (v := .non) (ev_call (ea_cons (ev_var rfl) ea_nil) (spV.use fun H1 _ => ⟨k, rfl, by omega, by omega, rfl⟩)) fun H1 e1 => ?_
    refine q_drop (v := .non) (ev_call (ea_cons (ev_var rfl) ea_nil) (spV.use fun H1 _ => ⟨l, rfl, by omega, rfl⟩)) fun H2 e2 => ?_
    have hq2 : SqE K H2 a xs := (hq.ex e1).ex e2
    have hp2 : PrIn K H2 (L) xs := (hp.ex e1).ex e2
    have ht2 : TabG H2 T := TabG.ex (TabG.ex ht e1) e2
    have t1 : EvT (tNot (tB (tCall (spPure P w base ["value"] pSequence) [] E0 (tCons (tVar 2) tNil)))) (start ["keep", "laid", "value", "some", "first", "stretch"] [.int k, .int l, .ref a]) H2 (!true) :=
      et_not (et_B (ev_call (ea_cons (ev_var rfl) ea_nil) (spPure.use rfl fun H1 e h ok bx => by
        obtain ⟨bb, its, rv, sq⟩ := TyG.of_sq ok (M.kin.keeps bx) (hq2.ex e)
        exact ⟨_, _, rfl, TyG.seq sq, by cases bb <;> rfl⟩)))
    refine q_ifOrF t1 fun H3 e3 => ?_
    have hq3 := hq2.ex e3
    have hp3 := hp2.ex e3
    have ht3 := TabG.ex ht2 e3
    refine ⟨.ref a, rfl, a, xs, fun _ => true, rfl, hq3, ht3, ?_, fun H4 t4 => ?_⟩
    · intro B' cenv g i v u hrm hs hg hb hx hn hi rv ok
      obtain ⟨m, ns, hm⟩ := hn
      have FR : FrP K mg base B' cenv g := ⟨M, hx, by rw [hs], hg, hb, hrm.hd⟩
      obtain ⟨p, hp1, b, rfl, hb1⟩ := Paired.at hp3 hi
      obtain ⟨bb, its, rvs, sq⟩ := seq_at ht3 ok (M.kin.keeps hx) hb1
      obtain ⟨u0, u1, rfl, r0, r1⟩ := vals2 rvs
      have st : StG g (.ref b) (isNum (.int (p.1 : Nat)) && isNum (.int (p.2 : Nat))) := .two sq r0 r1 (.int _) (.int _)
      have st2 : StG g (.ref b) true := by
        have z : (isNum (.int (p.1 : Nat)) && isNum (.int (p.2 : Nat))) = true := by
          rw [show isNum (.int (p.1 : Nat)) = decide (((p.1 : Nat) : Int) ≥ 0) from rfl, show isNum (.int (p.2 : Nat)) = decide (((p.2 : Nat) : Int) ≥ 0) from rfl, decide_eq_true (by omega), decide_eq_true (by omega)]
          rfl
        rw [← z]
        exact st
      have val : ∀ {pos : Pos}, EV P w B' cenv g (.Name "stretch" pos) (.ref b) := ev_loc FR (by show cenv.scope.names.lookup _ = _; rw [hs]; rfl) ns hm rv
      exact ev_pf FR G5 hrm (by show cenv.scope.names.lookup _ = _; rw [hs]; rfl) F5.mg F5.fn.kp F5.bd (ea_cons val ea_nil) rfl fun h e => ⟨_, _, rfl, st2.mono e, rfl⟩
    refine ⟨_, rfl, ite2 (fun z => absurd z (by rw [all_true]; decide)) fun _ => ?_⟩
    have x34 : ExT T H3 H4 := ExT.of_tab t4
    have hq4 := hq3.exT ht3 x34
    have hp4 := hp3.exT ht3 x34
    have x4 : ExT T H H4 := ExT.ex' ((e1.trans e2).trans e3) x34
    refine ⟨.ref a, rfl, a, xs, rfl, hq4, fun J Gd wk hG D hD => ?_⟩
    refine lc_gen wk (fun i H acc => PrS K H ((L).take i) acc) (by omega) hD (fun i H xs ys acc h r => PrS.upd r h) .nil hG ?_ ?_
    · intro i x Ha Hb acc hi ex y hR Qy Qn hy hn
      obtain ⟨rfl, hx⟩ := y
      obtain ⟨p, hpL, b, rfl, hb⟩ := Paired.at hp4 hx
      have tk : (L).take (i + 1) = (L).take i ++ [p] := by rw [List.take_add_one, hpL]; rfl
      refine ⟨rfl, yes_then ⟨.ref b, rfl, b, [.int (p.1 : Nat), .int (p.2 : Nat)], rfl, ?_⟩⟩
      rcases hb with q | q
      · refine .inr ⟨ex_t ex q, hy _ _ (Ex.refl _) ?_⟩
        rw [tk]
        exact hR.snoc (ex_t ex q)
      · refine .inl ⟨ex_l ex q, fun r hr => hy _ _ (Ex.new hr) ?_⟩
        rw [tk]
        exact (hR.ex (Ex.new hr)).snoc (SqT.of upd_same)
    · intro H5 acc e5 hD5 hR
      rw [hlen.symm, List.take_length] at hR
      refine ⟨D, acc, rfl, .inl ⟨SqL.of hD5, fun q hq => ?_⟩⟩
      have hR6 := hR.ex (Ex.new (p := q) (o := .tup acc) hq)
      have sq6 : SqT K (upd H5 q (.tup acc)) q acc := SqT.of upd_same
      have x6 : ExT T H (upd H5 q (.tup acc)) := x4.ex (e5.trans (Ex.new hq))
      refine ⟨_, rfl, _, rfl, .int (f : Nat), ⟨L, l, .ref q, rfl, ⟨q, acc, rfl, .inl sq6, hR6.in⟩, hzl, by rw [hf]⟩, fun H6 e6 => ?_⟩
      rw [hf] at kk
      refine ⟨.int (f : Nat), rfl, .int (l : Nat), rfl, f, l, rfl, rfl, decide ((f : Int) ≤ (l : Int)), rfl, ite2 (fun z => ?_) fun z => ?_⟩
      · have hfl : f ≤ l := by have := of_decide_eq_true z; omega
        refine ⟨.ref q, rfl, _, rfl, _, rfl, _, rfl, Sh.shp k f l, ⟨k, f, l, rfl, h2, h8, hfl, by omega, rfl⟩, fun p ys H7 hp7 e7 h7 hP => ?_⟩
        refine ⟨dShape L, dShape (Sh.shp k f l), dpShape (ex_t (e6.trans e7) sq6) (hR6.ex (e6.trans e7)), dpShape (SqT.of h7) hP.s, shape_shaped _, shape_shaped _, ?_⟩
        have := kk H7 (x6.ex (e6.trans e7))
        rw [eqv_shape]
        rw [show decide (f ≤ l ∧ L = Sh.shp k f l) = decide (L = Sh.shp k f l) from decide_eq_decide.mpr ⟨fun h => h.2, fun h => ⟨hfl, h⟩⟩] at this
        exact this
      · have hfl : ¬ f ≤ l := fun h => z (decide_eq_true (by omega))
        have := kk H6 (x6.ex e6)
        rw [show decide (f ≤ l ∧ L = Sh.shp k f l) = false from decide_eq_false fun h => hfl h.1] at this
        exact this
end
end K13
set_option Elab.async false
set_option linter.all false
set_option maxRecDepth 100000
set_option maxHeartbeats 4000000
namespace K13
open PySem PySem.Spec PyProof.Rows L2 GxR Pu Evl
/-- the statement of the class that errors of values have; its __init__ -/
def sInit : Stmt := match topS 2 with | .ClassDef (body := [s]) .. => s | s => s
theorem scInit : FnScope ["self", "at"] ["self", "at"] (defScope sInit) := ⟨rfl, rfl, rfl, by decide +kernel, rfl, by decide +kernel, by decide +kernel⟩
theorem scRefused : FnScope ["_law_ask", "fault"] ["_law_ask"] (defScope sLRefused) := ⟨rfl, rfl, rfl, by decide +kernel, rfl, by decide +kernel, by decide +kernel⟩
section
variable {P : Program} {w : World} {K : PySem.W.Frag} {mg : Str → Option Value} {base : Heap}
theorem ok_init {fI C : Addr} {fd : FuncData} (R : RefC K C fI) (F : Fun K "__init__" "Refused.__init__" sInit fI fd) : FnOk P w K mg base CX0 1 fI fd ["self", "at"] (spInitAt C) := by
  refine F.ok scInit (fun vs H Q E h => ?_) (fun cdv A outer s H vs Q E hr h => ?_)
  · obtain ⟨a, v, rfl, _⟩ := h
    rfl
  · obtain ⟨a, v, rfl, ha, kk⟩ := h
    refine ⟨_, pss_one (ps_ost (pv 0) (pv 1)), ?_⟩
    exact ⟨v, rfl, .ref a, rfl, a, C, rfl, R.oex, R.no, .inl ⟨ha, fun dx h1 h2 => kk dx h1 h2⟩⟩
end
/-- what the def that asks makes of a lambda's reading -/
def TRef (K : PySem.W.Frag) (C : Addr) : (XK → Hp → VK → Prop) → Hp → VK → Prop := fun tl H Q =>
  tl (fun cls d H' => ∃ dd v s, cls = .ref C ∧ d = some dd ∧ H' dd = some (.xd [("at", v)]) ∧ Shown K H' v s ∧ ∀ t, H' t = none → Q (.ref t) (upd H' t (.tup [.str "refused", .str s, .bl true]))) H (fun _ H' => Q .non H')
theorem takes_len {X : Cx} {W : WX} {n : Nat} (hn : X.N.length = n) (tk : Takes X W) : Takes X (fun cls d σ H => σ.length = n → W cls d σ H) := fun u s' ⟨a, B, sI, pins, σ, H, cls, d, e, I, nb, up, sky, na, os, ag, w⟩ =>
  tk u s' ⟨a, B, sI, pins, σ, H, cls, d, e, I, nb, up, sky, na, os, ag, w (I.len.trans hn)⟩
section
variable {X : Cx} {C CF fI g : Addr} {cdg : Value} {q : Str}
theorem ok_refused (R : RefC X.K C fI) (G : Mg X.mg) (hgd : X.A.guards = some []) (hun : X.A.units + 200 < cLine) (mC : X.mg "Refused" = some (.ref C)) (mF : X.mg "FarError" = some (.ref CF)) (kit : PySem.W.kitOne X.K (.ref C) (.ref CF) = some true) (exm : PySem.W.exmOne X.K (.ref C) (.ref C) = some true) :
    LamX.GivesTo X ["_law_ask", "fault"] "_law_refused" (defScope sLRefused) g cdg (defBody sLRefused) "_law_ask" q (TRef X.K C) := by
  intro f c' s H Q tl act hc h
  have cr1 : ∀ (a : Addr) (oe : Obj) (pn : List (Addr × Obj)), CallR (Cx.suite ((cxOf C8.CX0 X.prog X.w X.K X.mg X.base ["_law_ask", "fault"] "_law_refused" (defScope sLRefused) g cdg X.A X.stack s H C8.E0).nox) a ((a, oe) :: pn)) (.builtin "repr") (rReprS X.K) := fun a oe pn =>
    cr_reprS (X := Cx.suite ((cxOf C8.CX0 X.prog X.w X.K X.mg X.base ["_law_ask", "fault"] "_law_refused" (defScope sLRefused) g cdg X.A X.stack s H C8.E0).nox) a ((a, oe) :: pn)) (by show X.A.units + 3 + 64 < _; omega) hgd
  have cr2 : ∀ (a : Addr) (oe : Obj) (cls : Value) (d : Option Addr) (pn : List (Addr × Obj)), Zc cls d oe → (∃ vs, oe.data = .fields vs) → CallR (Cx.suite ((cxOf C8.CX0 X.prog X.w X.K X.mg X.base ["_law_ask", "fault"] "_law_refused" (defScope sLRefused) g cdg X.A X.stack s H C8.E0).nox) a ((a, oe) :: pn)) (.builtin "isinstance") (rIsD X.K cls d a) := fun a oe cls d pn hz hf => call_isD hz hf
  refine ⟨_, pss_cons (ps_try_as (X := (cxOf C8.CX0 X.prog X.w X.K X.mg X.base ["_law_ask", "fault"] "_law_refused" (defScope sLRefused) g cdg X.A X.stack s H C8.E0).nox) (c := .ref C) (i := 1) (Wout := fun _ _ _ _ => False)
      (tb := fun W D σ H => ∃ Ech : XK, (∀ cls d σ' H', Ech cls d H' → σ'.length = 2 → W cls d σ' H') ∧ σ[0]? = some (some (.ref f)) ∧ H c' = some (LamX.CodeO c' q) ∧ tl Ech H (fun _ H' => D.nx σ H'))
      rfl rfl (show (["_law_ask", "fault"] : List Str).Nodup by decide) rfl rfl ⟨rfl, by decide, .inl mC⟩ L2.takes0 (fun W pn xe tk _ => ?_)
      (fun a oe cls d pn hz hf => pss_one (ps_ret (pe_tup (pa_cons pe_str (pa_cons (pe_callB (cr1 a oe pn) (by rfl) G.repr boot_repr (pa_cons (pe_xf R.xf R.no hz hf (pv 1)) pa_nil)) (pa_cons (pe_callB (cr2 a oe cls d pn hz hf) (by rfl) G.isinstance boot_isinstance (pa_cons (pv 1) (pa_cons (pe_glob (v := .ref CF) (by rfl) mF rfl) pa_nil))) pa_nil)))))))
      (pss_one (ps_ret pe_non)), ?_⟩
  · refine ⟨fun pins s' σ H' D I h' => ?_⟩
    obtain ⟨Ech, hW, h1, h2, h3⟩ := h'
    exact (pss_one (ps_expr (act (fun cls d σ H => σ.length = 2 → W cls d σ H) pn xe Ech _ _ (takes_len rfl tk) fun cls d σ' H' e hl => hW cls d σ' H' e hl))).run pins s' σ H' D I ⟨h1, h2, h3⟩
  · refine ⟨_, fun cls d σ' H' he hl => ?_, rfl, hc, h⟩
    obtain ⟨dd, v, sv, rfl, rfl, hd, sh, kk⟩ := he
    refine ⟨true, exm, fun _ a ha => ?_, fun z => nomatch z⟩
    have s1 : (σ'.set 1 (some (V.ref a)))[1]? = some (some (.ref a)) := by rw [List.getElem?_set_self (by omega)]
    refine ⟨.ref a, s1, rfl, rfl, dd, _, v, rfl, hd, rfl, v, sv, rfl, sh, .ref a, s1, C, dd, .ref CF, .ref CF, true, _, rfl, rfl, R.ec, rfl, hd, fun u hu => hu, kit, by show 3 ≤ sizeLine; decide, fun p hp => kk p hp⟩
end
end K13
set_option Elab.async false
set_option linter.all false
set_option maxRecDepth 100000
set_option maxHeartbeats 4000000
namespace K13
open PySem PySem.Spec PyProof.Rows L2 GxR Pu Evl
theorem flat_ty {g : Heap} {x : V} (h : flatV x = true) : ∃ t, TyG g x t ∧ isSeq t = false := by
  cases x with
  | non => exact ⟨_, .non, by decide⟩
  | bl b => exact ⟨_, .bl b, by decide⟩
  | int i => exact ⟨_, .int i, by decide⟩
  | str s => exact ⟨_, .str s, by decide⟩
  | _ => cases h
def intB : V → Bool
  | .int _ => true
  | _ => false
theorem ty_int {g : Heap} {x : V} {t : String} (ty : TyG g x t) : (t == "int") = intB x := by
  cases ty <;> first | rfl | decide
def keepB : V → Bool
  | .int i => decide (2 ≤ i) && decide (i ≤ 8)
  | _ => false
def pKeepF : List V → Heap → V → Prop := fun vs g v => ∃ x t, vs = [x] ∧ TyG g x t ∧ v = .bl (keepB x)
section
variable {P : Program} {w : World} {K : PySem.W.Frag} {mg : Str → Option Value} {base : Heap} {Z : Tx}
variable {fNum fInt fIK fNK fNN fI C : Addr} {dNum dInt dIK dNK dNN dI : FuncData}
theorem pf_is_keep {f : Addr} {fd : FuncData} (M : L2.Mod K mg base) (G : Mg mg) (F : Fun K "is_keep" "is_keep" sIsKeep f fd) (F1 : Fns K mg "is_integer" ["value"] sIsInteger fInt dInt) : PF P w K mg base 2 f fd ["value"] pKeepF := by
  have G1 : PF P w K mg base 1 fInt dInt ["value"] pInteger := pf_is_integer M G F1.fn
  refine pf_ret M F scIsKeep rfl (by decide +kernel) (fun cdv A L g us vs v hr hx r hl h hn => ?_) fun vs g h v e q => ?_
  · obtain ⟨x, t, rfl, ty, rfl⟩ := h
    obtain ⟨u, rfl, ru⟩ := vals1 r
    obtain ⟨m, ns, hm⟩ := hn 0 "value" u rfl rfl
    have FR : FrP K mg base A (envOfC "is_keep" (defScope sIsKeep) L f cdv) g := ⟨M, hx, rfl, rfl, rfl, hr.hd⟩
    have val : ∀ {pos : Pos}, EV P w A (envOfC "is_keep" (defScope sIsKeep) L f cdv) g (.Name "value" pos) x := ev_loc FR rfl ns hm ru
    have one : ∀ {p q pos : Pos}, EV P w A (envOfC "is_keep" (defScope sIsKeep) L f cdv) g (.Call (.Name "is_integer" p) [.Name "value" q] [] pos) (.bl (intB x)) := fun {p q pos} =>
      ev_pf FR G1 hr rfl F1.mg F1.fn.kp F1.bd (Pu.ea_cons val Pu.ea_nil) rfl fun h e => ⟨x, t, rfl, ty.mono e, by rw [ty_int ty]⟩
    cases x with
    | int i => exact ev_and (x := true) one fun _ => ev_one (ev_chain ev_int val ev_int)
    | _ => exact ev_and (x := false) (y := false) one fun h => nomatch h
  · obtain ⟨x, t, h1, h2, h3⟩ := q
    exact ⟨x, t, h1, h2.mono e, h3⟩
structure Cal (P : Program) (w : World) (K : PySem.W.Frag) (mg : Str → Option Value) (base : Heap) (x : Str) (ps : List Str) (st : Stmt) (k : Nat) (sp : Sp) (f : Addr) (fd : FuncData) : Prop where
  ns : Fns K mg x ps st f fd
  ok : FnOk P w K mg base CX0 k f fd ps sp
structure CalX (P : Program) (w : World) (K : PySem.W.Frag) (mg : Str → Option Value) (base : Heap) (x : Str) (ps : List Str) (st : Stmt) (k : Nat) (sp : Sp) (f : Addr) (fd : FuncData) : Prop where
  ns : Fns K mg x ps st f fd
  ok : FnOk P w K mg base (L2.CX P w) k f fd ps sp
abbrev nValue : List Str := ["value"]
abbrev nKeep : List Str := ["keep"]
/-- a flat value passes by a test, another is refused -/
def spNeed (K : PySem.W.Frag) (Z : Tx) (C : Addr) (B : V → Bool) : Sp := fun vs H Q E => ∃ x, vs = [x] ∧ Z.Ok H ∧ flatV x = true ∧
  ((B x = false ∧ ∀ d H', Go Z [] H H' → H' d = none → E (.ref C) (some d) (upd H' d (.xd [("at", x)]))) ∨ (B x = true ∧ ∀ H', Ex H H' → Q .non H'))
theorem ok_needN {f : Addr} {fd : FuncData} (M : L2.Mod K mg base) (G : Mg mg) (R : RefC K C fI) (FI : FnOk P w K mg base CX0 1 fI dI ["self", "at"] (spInitAt C)) (bI : Binds K dI ["self", "at"] []) (mC : mg "Refused" = some (.ref C))
    (F : Fun K "need_number" "need_number" sNeedNumber f fd) (C1 : Cal P w K mg base "is_number" ["value"] sIsNumber 2 (spPure P w base ["value"] pNumber) fNum dNum) : FnOk P w K mg base (L2.CX P w) 3 f fd ["value"] (spNeed K Z C isNum) := by
  refine F.okX scNeedNumber (fun vs H Q E h => ?_) (fun cdv A outer s H vs Q E hr h => ?_)
  · obtain ⟨x, rfl, _⟩ := h
    rfl
  · obtain ⟨x, rfl, hz, fx, h⟩ := h
    have tk : Takes (cxOf (L2.CX P w) P w K mg base nValue "need_number" (defScope sNeedNumber) f cdv A outer s H E) (fun cls d _ H' => E cls d H') := takes_of (X := cxOf (L2.CX P w) P w K mg base nValue "need_number" (defScope sNeedNumber) f cdv A outer s H E) rfl rfl rfl rfl
    refine ⟨_, (pss_one (ps_if (pt_not (pt_val (pe_call C1.ok (hr.mono (by decide)) (by rfl) C1.ns.mg C1.ns.fn.kp C1.ns.bd .nil pass0 (pa_cons (pv 0) pa_nil)))) (pss_one (ps_ref R FI (hr.mono (by decide)) bI rfl tk rfl mC (pv 0))) pss_nil)), ?_⟩
    have e1 : Ev (tCall (spPure P w base ["value"] pNumber) [] E0 (tCons (tVar 0) tNil)) (start nValue [x]) H (.bl (isNum x)) :=
      ev_call (ea_cons (ev_var rfl) ea_nil) (spPure.use rfl fun H1 _ g _ _ => by
        obtain ⟨t, ty, _⟩ := flat_ty (g := g) fx
        exact ⟨x, t, rfl, ty, rfl⟩)
    refine e1 H (Ex.refl H) _ fun H1 x1 => ⟨isNum x, rfl, ?_⟩
    rcases h with ⟨hn, kE⟩ | ⟨hn, kQ⟩
    · refine ite2 (fun _ => ?_) fun z => absurd (by rw [hn]; rfl) z
      exact ⟨x, rfl, fun d hd => kE d H1 (Go.ex hz x1) hd⟩
    · refine ite2 (fun z => absurd z (by rw [hn]; simp)) fun _ => kQ H1 x1
theorem ok_needK {f : Addr} {fd : FuncData} (R : RefC K C fI) (FI : FnOk P w K mg base CX0 1 fI dI ["self", "at"] (spInitAt C)) (bI : Binds K dI ["self", "at"] []) (mC : mg "Refused" = some (.ref C))
    (F : Fun K "need_keep" "need_keep" sNeedKeep f fd) (C1 : Cal P w K mg base "is_keep" ["value"] sIsKeep 2 (spPure P w base ["value"] pKeepF) fIK dIK) : FnOk P w K mg base (L2.CX P w) 3 f fd ["keep"] (spNeed K Z C keepB) := by
  refine F.okX scNeedKeep (fun vs H Q E h => ?_) (fun cdv A outer s H vs Q E hr h => ?_)
  · obtain ⟨x, rfl, _⟩ := h
    rfl
  · obtain ⟨x, rfl, hz, fx, h⟩ := h
    have tk : Takes (cxOf (L2.CX P w) P w K mg base nKeep "need_keep" (defScope sNeedKeep) f cdv A outer s H E) (fun cls d _ H' => E cls d H') := takes_of (X := cxOf (L2.CX P w) P w K mg base nKeep "need_keep" (defScope sNeedKeep) f cdv A outer s H E) rfl rfl rfl rfl
    refine ⟨_, (pss_one (ps_if (pt_not (pt_val (pe_call C1.ok (hr.mono (by decide)) (by rfl) C1.ns.mg C1.ns.fn.kp C1.ns.bd .nil pass0 (pa_cons (pv 0) pa_nil)))) (pss_one (ps_ref R FI (hr.mono (by decide)) bI rfl tk rfl mC (pv 0))) pss_nil)), ?_⟩
    have e1 : Ev (tCall (spPure P w base ["value"] pKeepF) [] E0 (tCons (tVar 0) tNil)) (start nKeep [x]) H (.bl (keepB x)) :=
      ev_call (ea_cons (ev_var rfl) ea_nil) (spPure.use rfl fun H1 _ g _ _ => by
        obtain ⟨t, ty, _⟩ := flat_ty (g := g) fx
        exact ⟨x, t, rfl, ty, rfl⟩)
    refine e1 H (Ex.refl H) _ fun H1 x1 => ⟨keepB x, rfl, ?_⟩
    rcases h with ⟨hn, kE⟩ | ⟨hn, kQ⟩
    · refine ite2 (fun _ => ?_) fun z => absurd (by rw [hn]; rfl) z
      exact ⟨x, rfl, fun d hd => kE d H1 (Go.ex hz x1) hd⟩
    · refine ite2 (fun z => absurd z (by rw [hn]; simp)) fun _ => kQ H1 x1
end
end K13
set_option Elab.async false
set_option linter.all false
set_option maxRecDepth 100000
set_option maxHeartbeats 4000000
namespace K13X
open K13 PySem PySem.Spec PyProof.Rows L2 GxR Pu Evl
theorem scIsReading : FnScope ["value"] ["value"] (defScope sIsReading) := ⟨rfl, rfl, rfl, by decide +kernel, rfl, by decide +kernel, by decide +kernel⟩
theorem scIsSize : FnScope ["value"] ["value"] (defScope sIsSize) := ⟨rfl, rfl, rfl, by decide +kernel, rfl, by decide +kernel, by decide +kernel⟩
theorem scSumsWith : FnScope ["many", "low", "high", "needs", "others"] ["many", "low", "high", "needs"] (defScope sSumsWith) := ⟨rfl, rfl, rfl, by decide +kernel, rfl, by decide +kernel, by decide +kernel⟩
theorem scEndsOf : FnScope ["low", "high"] ["low", "high"] (defScope sEndsOf) := ⟨rfl, rfl, rfl, by decide +kernel, rfl, by decide +kernel, by decide +kernel⟩
theorem scIsSpan : FnScope ["value", "first", "many", "whole", "low", "high", "sums"] ["value"] (defScope sIsSpan) := ⟨rfl, rfl, rfl, by decide +kernel, rfl, by decide +kernel, by decide +kernel⟩
/-- the module's number -/
def Mv (mg : Str → Option Value) : Prop := ∃ u, mg "MOST_VALUE" = some u ∧ RelV (.int 1000000) u
def readB : V → Bool
  | .int i => decide (-1000000 ≤ i) && decide (i ≤ 1000000)
  | _ => false
def sizeB : V → Bool
  | .int i => decide (i ≥ 0) && (decide (i > 0) && (Builtin.bitAnd i (i - 1) == 0))
  | _ => false
def intB : V → Bool
  | .int _ => true
  | _ => false
def pReading : List V → Heap → V → Prop := fun vs g v => ∃ x t, vs = [x] ∧ TyG g x t ∧ v = .bl (readB x)
def pSize : List V → Heap → V → Prop := fun vs g v => ∃ x t, vs = [x] ∧ TyG g x t ∧ v = .bl (sizeB x)
theorem pow_and (i : Nat) : Builtin.bitAnd ((2 ^ i : Nat) : Int) (((2 ^ i : Nat) : Int) - 1) = 0 := by
  have p : 0 < 2 ^ i := Nat.two_pow_pos i
  have e : (((2 ^ i : Nat) : Int) - 1) = ((2 ^ i - 1 : Nat) : Int) := by omega
  rw [e]
  unfold Builtin.bitAnd
  rw [decide_eq_true (by omega), decide_eq_true (by omega)]
  show (((((2 ^ i : Nat) : Int).toNat &&& ((2 ^ i - 1 : Nat) : Int).toNat : Nat) : Nat) : Int) = 0
  rw [Int.toNat_natCast, Int.toNat_natCast, Nat.and_two_pow_sub_one_eq_mod, Nat.mod_self]
  rfl
section
variable {P : Program} {w : World} {K : PySem.W.Frag} {mg : Str → Option Value} {base : Heap}
theorem ty_int {g : Heap} {x : V} {t : String} (ty : TyG g x t) : (t == "int") = intB x := by
  cases ty <;> first | rfl | decide
theorem pf_is_reading {f f1 : Addr} {fd fd1 : FuncData} (M : L2.Mod K mg base) (G : Mg mg) (V' : Mv mg) (F : Fun K "is_reading" "is_reading" sIsReading f fd) (F1 : Fns K mg "is_integer" ["value"] sIsInteger f1 fd1) : PF P w K mg base 2 f fd ["value"] pReading := by
  have G1 : PF P w K mg base 1 f1 fd1 ["value"] pInteger := pf_is_integer M G F1.fn
  obtain ⟨um, em, rm⟩ := V'
  refine pf_ret M F scIsReading rfl (by decide +kernel) (fun cdv A L g us vs v hr hx r hl h hn => ?_) fun vs g h v e q => ?_
  · obtain ⟨x, t, rfl, ty, rfl⟩ := h
    obtain ⟨u, rfl, ru⟩ := vals1 r
    obtain ⟨m, ns, hm⟩ := hn 0 "value" u rfl rfl
    have FR : FrP K mg base A (envOfC "is_reading" (defScope sIsReading) L f cdv) g := ⟨M, hx, rfl, rfl, rfl, hr.hd⟩
    have val : ∀ {pos : Pos}, EV P w A (envOfC "is_reading" (defScope sIsReading) L f cdv) g (.Name "value" pos) x := ev_loc FR rfl ns hm ru
    have one : ∀ {p q pos : Pos}, EV P w A (envOfC "is_reading" (defScope sIsReading) L f cdv) g (.Call (.Name "is_integer" p) [.Name "value" q] [] pos) (.bl (intB x)) := fun {p q pos} =>
      ev_pf FR G1 hr rfl F1.mg F1.fn.kp F1.bd (ea_cons val ea_nil) rfl fun h e => ⟨x, t, rfl, ty.mono e, by rw [ty_int ty]⟩
    cases x with
    | int i => exact ev_and (x := true) one fun _ => ev_one (ev_chain (ev_neg (ev_gc FR rfl em rm)) val (ev_gc FR rfl em rm))
    | _ => exact ev_and (x := false) (y := false) one fun h => nomatch h
  · obtain ⟨x, t, h1, h2, h3⟩ := q
    exact ⟨x, t, h1, h2.mono e, h3⟩
theorem pf_is_size {f f1 f2 : Addr} {fd fd1 fd2 : FuncData} (M : L2.Mod K mg base) (G : Mg mg) (F : Fun K "is_size" "is_size" sIsSize f fd) (F1 : Fns K mg "is_number" ["value"] sIsNumber f1 fd1) (F2 : Fns K mg "is_integer" ["value"] sIsInteger f2 fd2) : PF P w K mg base 3 f fd ["value"] pSize := by
  have G1 : PF P w K mg base 2 f1 fd1 ["value"] pNumber := pf_is_number M G F1.fn F2.fn F2.bd F2.mg
  refine pf_ret M F scIsSize rfl (by decide +kernel) (fun cdv A L g us vs v hr hx r hl h hn => ?_) fun vs g h v e q => ?_
  · obtain ⟨x, t, rfl, ty, rfl⟩ := h
    obtain ⟨u, rfl, ru⟩ := vals1 r
    obtain ⟨m, ns, hm⟩ := hn 0 "value" u rfl rfl
    have FR : FrP K mg base A (envOfC "is_size" (defScope sIsSize) L f cdv) g := ⟨M, hx, rfl, rfl, rfl, hr.hd⟩
    have val : ∀ {pos : Pos}, EV P w A (envOfC "is_size" (defScope sIsSize) L f cdv) g (.Name "value" pos) x := ev_loc FR rfl ns hm ru
    have one : ∀ {p q pos : Pos}, EV P w A (envOfC "is_size" (defScope sIsSize) L f cdv) g (.Call (.Name "is_number" p) [.Name "value" q] [] pos) (.bl (isNum x)) := fun {p q pos} =>
      ev_pf FR G1 hr rfl F1.mg F1.fn.kp F1.bd (ea_cons val ea_nil) rfl fun h e => ⟨x, t, rfl, ty.mono e, rfl⟩
    cases x with
    | int i => exact ev_and (x := decide (i ≥ 0)) one fun _ => ev_and (x := decide (i > 0)) (ev_gt val ev_int) fun _ => ev_one (ev_eqI (ev_and_ val (ev_sub val ev_int)) ev_int)
    | _ => exact ev_and (x := false) (y := false) one fun h => nomatch h
  · obtain ⟨x, t, h1, h2, h3⟩ := q
    exact ⟨x, t, h1, h2.mono e, h3⟩
def spEnds : List V → Heap → (Value → Heap → Prop) → Prop := fun vs g S => ∃ i j : Int, vs = [.int i, .int j] ∧ S = TupR (if i = j then [.int i] else [.int i, .int j])
theorem pf_ends {f : Addr} {fd : FuncData} (M : L2.Mod K mg base) (F : Fun K "ends_of" "ends_of" sEndsOf f fd) : PFR P w K mg base 1 f fd ["low", "high"] spEnds := by
  refine pf_body M F scEndsOf (by decide +kernel) fun cdv A L g us vs T m hr hx r hl h hL hn => ?_
  obtain ⟨i, j, rfl, rfl⟩ := h
  obtain ⟨u1, u2, rfl, r1, r2⟩ := vals2 r
  have S := St.over (env := envOfC "ends_of" (defScope sEndsOf) L f cdv) hL
  refine es_ret S fun h1 e1 n1 => ?_
  have FR : FrP K mg base A (envOfC "ends_of" (defScope sEndsOf) L f cdv) h1 := ⟨M, fun b o e => e1 b o (hx b o e), rfl, rfl, rfl, hr.hd⟩
  have lo : ∀ {pos : Pos}, EV P w A (envOfC "ends_of" (defScope sEndsOf) L f cdv) h1 (.Name "low" pos) (.int i) := ev_loc FR rfl n1 (hn 0 "low" u1 rfl rfl) r1
  have hi : ∀ {pos : Pos}, EV P w A (envOfC "ends_of" (defScope sEndsOf) L f cdv) h1 (.Name "high" pos) (.int j) := ev_loc FR rfl n1 (hn 1 "high" u2 rfl rfl) r2
  refine er_if (c := decide (i = j)) (et_cmpI lo hi fun _ _ _ _ _ q => eq_int (by rw [Bool.beq_eq_decide_eq]; exact q)) (fun z => ?_) fun z => ?_
  · rw [if_pos (of_decide_eq_true z)]
    exact er_tup (ea_cons lo ea_nil) (by show 1 ≤ 1000; decide)
  · rw [if_neg (of_decide_eq_false z)]
    exact er_tup (ea_cons lo (ea_cons hi ea_nil)) (by show 2 ≤ 1000; decide)
end
end K13X
namespace K13X
open K13 PySem PySem.Spec PyProof.Rows L2 GxR Pu Evl
def tot (ks : List Int) : Int := preSum (fun i => ks.getD i 0) ks.length
def sumsR (n : Nat) (lo hi : Int) (ks : List Int) : Value → Heap → Prop := if ks.length ≤ n then TupR [.int (tot ks + ((n : Int) - ks.length) * lo), .int (tot ks + ((n : Int) - ks.length) * hi)] else fun u _ => RelV .non u
def spSums : List V → Heap → (Value → Heap → Prop) → Prop := fun vs g S => ∃ (n : Nat) (lo hi : Int) (a : Addr) (ks : List Int) (us : List Value), vs = [.int (n : Int), .int lo, .int hi, .ref a] ∧ SeqG g true a us ∧ Vals (ks.map V.int) us ∧ ks.length ≤ 1000000 ∧ n ≤ 1000000 ∧
  S = sumsR n lo hi ks
theorem ev_non {P : Program} {w : World} {A : Around} {env : Env} {g : Heap} {k : Nat} {pos : Pos} : EV P w A env g (.Constant .none k pos) .non := fun s Q E hx hQ => wpAny_Constant_none (hQ _ s.heap s.toks rfl fun _ _ e => e)
section
variable {P : Program} {w : World} {K : PySem.W.Frag} {mg : Str → Option Value} {base : Heap}
theorem pf_sums {f : Addr} {fd : FuncData} (M : L2.Mod K mg base) (G : Mg mg) (hsum : mg "sum" = none) (F : Fun K "sums_with" "sums_with" sSumsWith f fd) : PFR P w K mg base 1 f fd ["many", "low", "high", "needs"] spSums := by
  refine pf_body M F scSumsWith (by decide +kernel) fun cdv A L g us vs T m hr hx r hl h hL hn => ?_
  obtain ⟨n, lo, hi, a, ks, ws, rfl, sq, vk, hk, hn9, rfl⟩ := h
  obtain ⟨u1, t1, rfl, r1, q1⟩ : ∃ u1 t1, us = u1 :: t1 ∧ RelV (.int (n : Int)) u1 ∧ Vals [V.int lo, V.int hi, V.ref a] t1 := by cases r with | cons a b => exact ⟨_, _, rfl, a, b⟩
  obtain ⟨u2, t2, rfl, r2, q2⟩ : ∃ u1 t, t1 = u1 :: t ∧ RelV (.int lo) u1 ∧ Vals [V.int hi, V.ref a] t := by cases q1 with | cons a b => exact ⟨_, _, rfl, a, b⟩
  obtain ⟨u3, u4, rfl, r3, r4⟩ := vals2 q2
  have S := St.over (env := envOfC "sums_with" (defScope sSumsWith) L f cdv) hL
  have kl : ws.length = ks.length := by rw [← vk.length, List.length_map]
  refine es_set (R1 := fun u _ => RelV (.int ((n : Int) - ks.length)) u) S rfl rfl (fun h1 e1 n1 => ?_) (fun u h h' x _ => x) fun u => ?_
  · have FR : FrP K mg base A (envOfC "sums_with" (defScope sSumsWith) L f cdv) h1 := ⟨M, fun b o e => e1 b o (hx b o e), rfl, rfl, rfl, hr.hd⟩
    refine EV.r (EV.to (ev_sub (ev_loc FR rfl n1 (hn 0 "many" u1 rfl rfl) r1) (ev_len FR rfl G.len (ev_loc FR rfl n1 (hn 3 "needs" u4 rfl rfl) r4) (sq.mono e1))) (by rw [kl]))
  have S2 : St (envOfC "sums_with" (defScope sSumsWith) L f cdv) (fun h => Ext g h ∧ RelV (.int ((n : Int) - ks.length)) u) := S.and fun h h' x _ => x
  refine es_if (b := decide ((n : Int) - ks.length < 0)) S2 (fun h1 e1 n1 => ?_) (fun z => es_ret S2 fun h1 e1 n1 => ?_) fun z => es_ret S2 fun h1 e1 n1 => ?_
  · have FR : FrP K mg base A (envOfC "sums_with" (defScope sSumsWith) L f cdv) h1 := ⟨M, fun b o e => e1.1 b o (hx b o e), rfl, rfl, rfl, hr.hd⟩
    refine et_cmpI (i := (n : Int) - ks.length) (j := 0) (ev_loc FR rfl n1 put_eq e1.2) ev_int fun _ _ _ _ _ q => lt_int ?_
    exact q
  · have hn0 := of_decide_eq_true z
    unfold sumsR
    rw [if_neg (show ¬ ks.length ≤ n by omega)]
    exact EV.r ev_non
  · have hn0 : ks.length ≤ n := by have := of_decide_eq_false z; omega
    unfold sumsR
    rw [if_pos hn0]
    have FR : FrP K mg base A (envOfC "sums_with" (defScope sSumsWith) L f cdv) h1 := ⟨M, fun b o e => e1.1 b o (hx b o e), rfl, rfl, rfl, hr.hd⟩
    have oth : ∀ {pos : Pos}, EV P w A (envOfC "sums_with" (defScope sSumsWith) L f cdv) h1 (.Name "others" pos) (.int ((n : Int) - ks.length)) := ev_loc FR rfl n1 put_eq e1.2
    have nd : ∀ {pos : Pos}, EV P w A (envOfC "sums_with" (defScope sSumsWith) L f cdv) h1 (.Name "needs" pos) (.ref a) := ev_loc FR rfl n1 (put_ne (hn 3 "needs" u4 rfl rfl) (by decide)) r4
    have sm : ∀ {p q pos : Pos}, EV P w A (envOfC "sums_with" (defScope sSumsWith) L f cdv) h1 (.Call (.Name "sum" p) [.Name "needs" q] [] pos) (.int (tot ks)) := fun {p q pos} => by
      refine ev_bltcall (id := "sum") (vs := [.ref a]) FR rfl hsum (by decide +kernel) (ea_cons nd ea_nil) (fun s us Q E hx2 r hQ => ?_)
      obtain ⟨u, rfl, ru⟩ := vals1 r
      cases (show u = Value.ref a from ru)
      refine sum_tup (val := fun i => ks.getD i 0) hr.hd (show IsTup s.heap a ws.toArray from ((sq.mono e1.1).mono hx2).2) (fun i v hv => ?_) fun h' tk t' hk' => ?_
      · have li : i < ks.length := by rw [← kl]; exact (List.getElem?_eq_some_iff.mp hv).1
        obtain ⟨v', hv', rv⟩ := vk.get (i := i) (by rw [List.getElem?_map, List.getElem?_eq_getElem li]; rfl)
        cases Option.some.inj (hv'.symm.trans hv)
        obtain ⟨t, rfl⟩ := rv
        exact ⟨t, by rw [List.getD_eq_getElem?_getD, List.getElem?_eq_getElem li]; rfl⟩
      · rw [kl]
        exact hQ _ h' tk ⟨t', rfl⟩ hk'
    have mk : ∀ x : Int, IntMulOk ((n : Int) - ks.length) x := fun x => CMul.ok (.inl ⟨by omega, by omega⟩)
    refine er_tup (ea_cons (ev_add sm (ev_mul (mk _) oth (ev_loc FR rfl n1 (put_ne (hn 1 "low" u2 rfl rfl) (by decide)) r2))) (ea_cons (ev_add sm (ev_mul (mk _) oth (ev_loc FR rfl n1 (put_ne (hn 2 "high" u3 rfl rfl) (by decide)) r3))) ea_nil)) (by show 2 ≤ 1000; decide)
end
end K13X
set_option Elab.async false
set_option linter.all false
set_option maxRecDepth 100000
set_option maxHeartbeats 4000000
namespace K13X
open K13 PySem PySem.Spec PyProof.Rows L2 GxR Pu Evl
def ends (lo hi : Int) : List Int := if lo = hi then [lo] else [lo, hi]
def sumB (n : Nat) (w lo hi : Int) : Bool := decide ((ends lo hi).length ≤ n) && (decide (tot (ends lo hi) + ((n : Int) - (ends lo hi).length) * lo ≤ w) && decide (w ≤ tot (ends lo hi) + ((n : Int) - (ends lo hi).length) * hi))
def gtB : V → V → Bool
  | .int i, .int j => decide (i > j)
  | _, _ => false
def sumV : V → V → V → V → Bool
  | .int n, .int w, .int lo, .int hi => sumB n.toNat w lo hi
  | _, _, _, _ => false
/-- is it a span, by its five parts -/
def spanB (x1 x2 x3 x4 x5 : V) : Bool := (isNum x1 && (sizeB x2 && intB x3)) && ((readB x4 && (readB x5 && !gtB x4 x5)) && sumV x2 x3 x4 x5)
/-- what is_span finds -/
inductive SpanG (g : Heap) : V → Bool → Prop
  | five {b : Bool} {a : Addr} {u1 u2 u3 u4 u5 : Value} {x1 x2 x3 x4 x5 : V} {t1 t2 t3 t4 t5 : String} (h : SeqG g b a [u1, u2, u3, u4, u5]) (r1 : RelV x1 u1) (r2 : RelV x2 u2) (r3 : RelV x3 u3) (r4 : RelV x4 u4) (r5 : RelV x5 u5)
      (y1 : TyG g x1 t1) (y2 : TyG g x2 t2) (y3 : TyG g x3 t3) (y4 : TyG g x4 t4) (y5 : TyG g x5 t5) (n9 : ∀ n, x2 = .int n → n ≤ 1000000) : SpanG g (.ref a) (spanB x1 x2 x3 x4 x5)
  | few {x : V} {n : Option Nat} (h : PartsG g x n) (n5 : n ≠ some 5) : SpanG g x false
theorem SpanG.mono {g h : Heap} {x : V} {b : Bool} (y : SpanG g x b) (e : Ext g h) : SpanG h x b := by
  cases y with
  | five q r1 r2 r3 r4 r5 y1 y2 y3 y4 y5 n9 => exact .five (q.mono e) r1 r2 r3 r4 r5 (y1.mono e) (y2.mono e) (y3.mono e) (y4.mono e) (y5.mono e) n9
  | few q n => exact .few (q.mono e) n
def pSpan : List V → Heap → V → Prop := fun vs g v => ∃ x b, vs = [x] ∧ SpanG g x b ∧ v = .bl b
theorem sizeB_int {x : V} (h : sizeB x = true) : ∃ n : Nat, x = .int (n : Int) ∧ 0 < n := by
  cases x with
  | int i =>
    have h' : (decide (i ≥ 0) && (decide (i > 0) && (Builtin.bitAnd i (i - 1) == 0))) = true := h
    have := of_decide_eq_true (Bool.and_eq_true_iff.mp (Bool.and_eq_true_iff.mp h').2).1
    exact ⟨i.toNat, by rw [Int.toNat_of_nonneg (by omega)], by omega⟩
  | _ => cases h
theorem readB_int {x : V} (h : readB x = true) : ∃ i : Int, x = .int i ∧ -1000000 ≤ i ∧ i ≤ 1000000 := by
  cases x with
  | int i =>
    have h' : (decide (-1000000 ≤ i) && decide (i ≤ 1000000)) = true := h
    exact ⟨i, rfl, of_decide_eq_true (Bool.and_eq_true_iff.mp h').1, of_decide_eq_true (Bool.and_eq_true_iff.mp h').2⟩
  | _ => cases h
theorem intB_int {x : V} (h : intB x = true) : ∃ i : Int, x = .int i := by
  cases x with
  | int i => exact ⟨i, rfl⟩
  | _ => cases h
theorem not3 {a b c : Bool} (h : (!a || (!b || !c)) = false) : a = true ∧ b = true ∧ c = true := by cases a <;> cases b <;> cases c <;> simp_all
theorem not3' {a b c : Bool} (h : (!a || (!b || c)) = false) : a = true ∧ b = true ∧ c = false := by cases a <;> cases b <;> cases c <;> simp_all
theorem no3 {x1 x2 x3 x4 x5 : V} (h : (!isNum x1 || (!sizeB x2 || !intB x3)) = true) : spanB x1 x2 x3 x4 x5 = false := by
  unfold spanB
  revert h
  generalize isNum x1 = a
  generalize sizeB x2 = b
  generalize intB x3 = c
  cases a <;> cases b <;> cases c <;> simp
theorem no3' {x1 x2 x3 x4 x5 : V} (h : (!readB x4 || (!readB x5 || gtB x4 x5)) = true) : spanB x1 x2 x3 x4 x5 = false := by
  unfold spanB
  revert h
  generalize readB x4 = a
  generalize readB x5 = b
  generalize gtB x4 x5 = c
  cases a <;> cases b <;> cases c <;> simp
theorem ev_isNotN {P : Program} {w : World} {A : Around} {env : Env} {g : Heap} {e : Expr} {pos p2 : Pos} {k : Nat} (he : EV P w A env g e .non) : EV P w A env g (.Compare e [.IsNot] [.Constant .none k p2] pos) (.bl false) := fun s Q E hx hQ => by
  refine wpAny_Compare1 (he s _ E hx fun u h' tk r hk => wpAny_Constant_none ?_) (nobehind _ (by decide) (by decide))
  cases (show u = Value.none from r)
  exact wpAny_isNot_self rfl (hQ _ h' tk rfl hk)
section
variable {P : Program} {w : World} {K : PySem.W.Frag} {mg : Str → Option Value} {base : Heap}
variable {fPar fNum fInt fSz fRd fSm fEn fSq : Addr} {dPar dNum dInt dSz dRd dSm dEn dSq : FuncData}
theorem pf_is_span {f : Addr} {fd : FuncData} (M : L2.Mod K mg base) (G : Mg mg) (V' : Mv mg) (hsum : mg "sum" = none) (F : Fun K "is_span" "is_span" sIsSpan f fd) (F1 : Fns K mg "is_of_parts" ["value", "many"] sIsOfParts fPar dPar) (F2 : Fns K mg "is_number" ["value"] sIsNumber fNum dNum) (F3 : Fns K mg "is_integer" ["value"] sIsInteger fInt dInt)
    (F4 : Fns K mg "is_size" ["value"] sIsSize fSz dSz) (F5 : Fns K mg "is_reading" ["value"] sIsReading fRd dRd) (F6 : Fns K mg "sums_with" ["many", "low", "high", "needs"] sSumsWith fSm dSm) (F7 : Fns K mg "ends_of" ["low", "high"] sEndsOf fEn dEn) (F8 : Fns K mg "is_sequence" ["value"] sIsSequence fSq dSq) : PF P w K mg base 4 f fd ["value"] pSpan := by
  have G1 : PF P w K mg base 2 fPar dPar ["value", "many"] pOfParts := pf_is_of_parts M G F1.fn F8.fn F8.bd F8.mg
  have G2 : PF P w K mg base 2 fNum dNum ["value"] pNumber := pf_is_number M G F2.fn F3.fn F3.bd F3.mg
  have G3 : PF P w K mg base 1 fInt dInt ["value"] pInteger := pf_is_integer M G F3.fn
  have G4 : PF P w K mg base 3 fSz dSz ["value"] pSize := pf_is_size M G F4.fn F2 F3
  have G5 : PF P w K mg base 2 fRd dRd ["value"] pReading := pf_is_reading M G V' F5.fn F3
  have G6 : PFR P w K mg base 1 fSm dSm ["many", "low", "high", "needs"] spSums := pf_sums M G hsum F6.fn
  have G7 : PFR P w K mg base 1 fEn dEn ["low", "high"] spEnds := pf_ends M F7.fn
  refine PFR.pf (pf_body M F scIsSpan (by decide +kernel) fun cdv A L g us vs T m hr hx r hl h hL hn => ?_)
  obtain ⟨v, ⟨x, b, rfl, sp, rfl⟩, rfl⟩ := h
  obtain ⟨u0, rfl, r0⟩ := vals1 r
  have S := St.over (env := envOfC "is_span" (defScope sIsSpan) L f cdv) hL
  have FR : ∀ h1, Ext g h1 → FrP K mg base A (envOfC "is_span" (defScope sIsSpan) L f cdv) h1 := fun h1 e1 => ⟨M, fun b o e => e1 b o (hx b o e), rfl, rfl, rfl, hr.hd⟩
  have m0 : m "value" = some u0 := hn 0 "value" u0 rfl rfl
  have fal : ∀ {k : Nat} {pos pos2 : Pos} {m' : Str → Option Value}, ES P w A (envOfC "is_span" (defScope sIsSpan) L f cdv) (fun h => Ext g h) m' [.Return (some (.Constant (.bool false) k pos)) pos2] (fun u _ => RelV (.bl false) u) := fun {k pos pos2 m'} => es_ret S fun h1 e1 n1 => EV.r ev_bl
  cases sp with
  | @few _ n q n5 =>
    obtain ⟨b, hb, pb⟩ : ∃ b, b = false ∧ ∀ h, Ext g h → pOfParts [x, .int 5] h (.bl b) := by
      cases n with
      | none => exact ⟨false, rfl, fun h e => ⟨x, none, 5, rfl, q.mono e, rfl⟩⟩
      | some k => exact ⟨decide ((k : Int) = 5), decide_eq_false fun z => n5 (by rw [show k = 5 by omega]), fun h e => ⟨x, some k, 5, rfl, q.mono e, rfl⟩⟩
    subst hb
    exact es_if (b := !false) S (fun h1 e1 n1 => et_not (et_val (ev_pf (FR h1 e1) G1 (hr.mono (by decide)) rfl F1.mg F1.fn.kp F1.bd (ea_cons (ev_loc (FR h1 e1) rfl n1 m0 r0) (ea_cons ev_int ea_nil)) rfl fun h e => pb h fun b o q => e b o (e1 b o q)))) (fun _ => fal) fun z => nomatch z
  | @five bb a v1 v2 v3 v4 v5 x1 x2 x3 x4 x5 t1 t2 t3 t4 t5 sq k1 k2 k3 k4 k5 y1 y2 y3 y4 y5 n9 =>
    refine es_if (b := !true) S (fun h1 e1 n1 => et_not (et_val (EV.to (ev_pf (FR h1 e1) G1 (hr.mono (by decide)) rfl F1.mg F1.fn.kp F1.bd (ea_cons (ev_loc (FR h1 e1) rfl n1 m0 r0) (ea_cons ev_int ea_nil)) rfl fun h e => ⟨_, some 5, 5, rfl, PartsG.seq ((sq.mono e1).mono e), rfl⟩) rfl))) (fun z => nomatch z) fun _ => ?_
    refine es_unpack S hr.hd (fun h1 e1 n1 => ev_loc (FR h1 e1) rfl n1 m0 r0) (fun h1 e1 => sq.mono e1) (eu_cons S rfl rfl (eu_cons S rfl rfl (eu_cons S rfl rfl (eu_cons S rfl rfl (eu_cons S rfl rfl eu_nil))))) ?_ (by rfl)
    generalize hm' : put (put (put (put (put m "first" v1) "many" v2) "whole" v3) "low" v4) "high" v5 = m'
    have g1 : m' "first" = some v1 := by rw [← hm']; exact put_ne (put_ne (put_ne (put_ne put_eq (by decide)) (by decide)) (by decide)) (by decide)
    have g2 : m' "many" = some v2 := by rw [← hm']; exact put_ne (put_ne (put_ne put_eq (by decide)) (by decide)) (by decide)
    have g3 : m' "whole" = some v3 := by rw [← hm']; exact put_ne (put_ne put_eq (by decide)) (by decide)
    have g4 : m' "low" = some v4 := by rw [← hm']; exact put_ne put_eq (by decide)
    have g5 : m' "high" = some v5 := by rw [← hm']; exact put_eq
    clear hm'
    refine es_if (b := !isNum x1 || (!sizeB x2 || !intB x3)) S (fun h1 e1 n1 => ?_) (fun z => ?_) fun z => ?_
    · exact et_or (et_not (et_val (ev_pf (FR h1 e1) G2 (hr.mono (by decide)) rfl F2.mg F2.fn.kp F2.bd (ea_cons (ev_loc (FR h1 e1) rfl n1 g1 k1) ea_nil) rfl fun h e => ⟨_, _, rfl, (y1.mono e1).mono e, rfl⟩))) fun _ =>
        et_or (et_not (et_val (ev_pf (FR h1 e1) G4 (hr.mono (by decide)) rfl F4.mg F4.fn.kp F4.bd (ea_cons (ev_loc (FR h1 e1) rfl n1 g2 k2) ea_nil) rfl fun h e => ⟨_, _, rfl, (y2.mono e1).mono e, rfl⟩))) fun _ =>
          et_or1 (et_not (et_val (ev_pf (FR h1 e1) G3 (hr.mono (by decide)) rfl F3.mg F3.fn.kp F3.bd (ea_cons (ev_loc (FR h1 e1) rfl n1 g3 k3) ea_nil) rfl fun h e => ⟨_, _, rfl, (y3.mono e1).mono e, by rw [ty_int y3]⟩)))
    · rw [show spanB x1 x2 x3 x4 x5 = false from no3 z]
      exact fal
    obtain ⟨b1, b2, b3⟩ := not3 z
    have gt3 : ∀ h1, Ext g h1 → h1.Ns L m' → readB x4 = true → readB x5 = true → ∀ {pos q1 q2 : Pos}, EVT P w A (envOfC "is_span" (defScope sIsSpan) L f cdv) h1 (.Compare (.Name "low" q1) [.Gt] [.Name "high" q2] pos) (gtB x4 x5) := fun h1 e1 n1 z4 z5 {pos q1 q2} => by
      obtain ⟨lo, rfl, _⟩ := readB_int z4
      obtain ⟨hi, rfl, _⟩ := readB_int z5
      exact et_cmpI (ev_loc (FR h1 e1) rfl n1 g4 k4) (ev_loc (FR h1 e1) rfl n1 g5 k5) fun _ _ _ _ _ q => gt_int q
    refine es_if (b := !readB x4 || (!readB x5 || gtB x4 x5)) S (fun h1 e1 n1 => ?_) (fun z => ?_) fun z => ?_
    · exact et_or (et_not (et_val (ev_pf (FR h1 e1) G5 (hr.mono (by decide)) rfl F5.mg F5.fn.kp F5.bd (ea_cons (ev_loc (FR h1 e1) rfl n1 g4 k4) ea_nil) rfl fun h e => ⟨_, _, rfl, (y4.mono e1).mono e, rfl⟩))) fun z4 =>
        et_or (et_not (et_val (ev_pf (FR h1 e1) G5 (hr.mono (by decide)) rfl F5.mg F5.fn.kp F5.bd (ea_cons (ev_loc (FR h1 e1) rfl n1 g5 k5) ea_nil) rfl fun h e => ⟨_, _, rfl, (y5.mono e1).mono e, rfl⟩))) fun z5 =>
          et_or1 (gt3 h1 e1 n1 (by simpa using z4) (by simpa using z5))
    · rw [show spanB x1 x2 x3 x4 x5 = false from no3' z]
      exact fal
    obtain ⟨b4, b5, b6⟩ := not3' z
    obtain ⟨n, rfl, np⟩ := sizeB_int b2
    obtain ⟨wh, rfl⟩ := intB_int b3
    obtain ⟨lo, rfl, l1, l2⟩ := readB_int b4
    obtain ⟨hi, rfl, l3, l4⟩ := readB_int b5
    have n9' := n9 _ rfl
    have lE : (ends lo hi).length ≤ 2 := by unfold ends; by_cases z : lo = hi <;> simp [z]
    have res : spanB x1 (.int (n : Int)) (.int wh) (.int lo) (.int hi) = sumB n wh lo hi := by unfold spanB; rw [b1, b2, b3, b4, b5, b6]; rfl
    rw [res]
    have mk : ∀ h1, Ext g h1 → h1.Ns L m' → ∀ {p1 p2 p3 p4 p5 p6 p7 p8 p9 : Pos}, EVR P w A (envOfC "is_span" (defScope sIsSpan) L f cdv) h1 (.Call (.Name "sums_with" p1) [.Name "many" p2, .Name "low" p3, .Name "high" p4, .Call (.Name "ends_of" p5) [.Name "low" p6, .Name "high" p7] [] p8] [] p9) (sumsR n lo hi (ends lo hi)) := fun h1 e1 n1 {p1 p2 p3 p4 p5 p6 p7 p8 p9} => by
      refine er_pf (FR h1 e1) G6 (hr.mono (by decide)) rfl F6.mg F6.fn.kp F6.bd (ar_cons (ev_loc (FR h1 e1) rfl n1 g2 k2) (ar_cons (ev_loc (FR h1 e1) rfl n1 g4 k4) (ar_cons (ev_loc (FR h1 e1) rfl n1 g5 k5)
        (ar_last (er_pf (S := TupR ((ends lo hi).map V.int)) (FR h1 e1) G7 (hr.mono (by decide)) rfl F7.mg F7.fn.kp F7.bd (ar_ea (ea_cons (ev_loc (FR h1 e1) rfl n1 g4 k4) (ea_cons (ev_loc (FR h1 e1) rfl n1 g5 k5) ea_nil))) fun us h e v => ⟨_, v, rfl, lo, hi, rfl, ?_⟩))))) fun us h e v => ?_
      · unfold ends
        by_cases z : lo = hi
        · rw [if_pos z, if_pos z]; rfl
        · rw [if_neg z, if_neg z]; rfl
      · obtain ⟨w1, us1, rfl, x1, w2, us2, rfl, x2, w3, us3, rfl, x3, w4, rfl, a4, us5, rfl, x5, sq5⟩ := v
        exact ⟨[.int (n : Int), .int lo, .int hi, .ref a4], .cons x1 (.cons x2 (.cons x3 (.cons rfl .nil))), rfl, n, lo, hi, a4, ends lo hi, us5, rfl, sq5, x5, by omega, by omega, rfl⟩
    by_cases hE : (ends lo hi).length ≤ n
    · refine es_set2 (R1 := TupR [.int (tot (ends lo hi) + ((n : Int) - (ends lo hi).length) * lo), .int (tot (ends lo hi) + ((n : Int) - (ends lo hi).length) * hi)]) S rfl rfl (fun h1 e1 n1 => ?_) (fun u h m' k n => k.n n) (fun u => TupN.st) fun u => ?_
      · have e : sumsR n lo hi (ends lo hi) = TupR [.int (tot (ends lo hi) + ((n : Int) - (ends lo hi).length) * lo), .int (tot (ends lo hi) + ((n : Int) - (ends lo hi).length) * hi)] := if_pos hE
        rw [← e]
        exact mk h1 e1 n1
      have S2 := S.and (TupN.st (env := envOfC "is_span" (defScope sIsSpan) L f cdv) (vs := [.int (tot (ends lo hi) + ((n : Int) - (ends lo hi).length) * lo), .int (tot (ends lo hi) + ((n : Int) - (ends lo hi).length) * hi)]) (u := u))
      refine es_ret S2 fun h1 e1 n1 => ?_
      obtain ⟨a4, us4, rfl, _, x4', sq4⟩ := e1.2
      obtain ⟨w1, w2, rfl, z1, z2⟩ := vals2 x4'
      have sm : ∀ {pos : Pos}, EV P w A (envOfC "is_span" (defScope sIsSpan) L f cdv) h1 (.Name "sums" pos) (.ref a4) := ev_loc (FR h1 e1.1) rfl n1 put_eq rfl
      refine EV.r (EV.to (ev_and (x := true) (ev_isNot sm) fun _ => ev_one (ev_chain (ev_ix (j := 0) (FR h1 e1.1) sm ev_int sq4 rfl z1) (ev_loc (FR h1 e1.1) rfl n1 (put_ne g3 (by decide)) k3) (ev_ix (j := 1) (FR h1 e1.1) sm ev_int sq4 rfl z2))) ?_)
      unfold sumB
      rw [decide_eq_true hE]
    · refine es_set (R1 := fun u _ => RelV .non u) S rfl rfl (fun h1 e1 n1 => ?_) (fun u h h' x _ => x) fun u => ?_
      · have e : sumsR n lo hi (ends lo hi) = fun u _ => RelV .non u := if_neg hE
        rw [← e]
        exact mk h1 e1 n1
      have S2 : St (envOfC "is_span" (defScope sIsSpan) L f cdv) (fun h => Ext g h ∧ RelV .non u) := S.and fun h h' x _ => x
      refine es_ret S2 fun h1 e1 n1 => ?_
      refine EV.r (EV.to (ev_and (x := false) (y := false) (ev_isNotN (ev_loc (FR h1 e1.1) rfl n1 put_eq e1.2)) fun z => nomatch z) ?_)
      unfold sumB
      rw [decide_eq_false hE]
      rfl
end
end K13X
set_option Elab.async false
set_option linter.all false
set_option maxRecDepth 100000
set_option maxHeartbeats 4000000
namespace Pu
open PySem PySem.Spec PyProof.Rows L2 GxR Evl
theorem rv_ixE {K : PySem.W.Frag} {H : Hp} {p : Addr} {xs : List V} {i : Int} {v : V} (h : SqE K H p xs) (ha : atI xs i = some v) : RV (rIx K) (.ref p) (.int i) H v := fun H1 e Q q =>
  (SqE.ex h e).elim (fun h => .inr (.inl ⟨p, xs, i, v, rfl, rfl, h, ha, q H1 (Ex.refl H1)⟩)) fun h => .inl ⟨p, xs, i, v, rfl, rfl, h, ha, q H1 (Ex.refl H1)⟩
theorem Paired.atR {α β : Type} {F : α → β → Prop} {l : List α} {m : List β} (h : Paired F l m) {i : Nat} {x : β} (e : m[i]? = some x) : ∃ a, l[i]? = some a ∧ F a x := by
  induction h generalizing i with
  | nil => cases e
  | cons r t ih =>
    cases i with
    | zero => exact ⟨_, rfl, by cases e; exact r⟩
    | succ i => exact ih e
end Pu
namespace K13X
open K13 PySem PySem.Spec PyProof.Rows L2 GxR Pu Evl
structure Cal (P : Program) (w : World) (K : PySem.W.Frag) (mg : Str → Option Value) (base : Heap) (x : Str) (ps : List Str) (st : Stmt) (k : Nat) (sp : Sp) (f : Addr) (fd : FuncData) : Prop where
  ns : Fns K mg x ps st f fd
  ok : FnOk P w K mg base CX0 k f fd ps sp
/-- a span by its five numbers -/
structure S5 where
  f : Nat
  n : Nat
  w : Int
  lo : Int
  hi : Int
def S5.vs (s : S5) : List V := [.int (s.f : Int), .int (s.n : Int), .int s.w, .int s.lo, .int s.hi]
def S5.Ok (s : S5) : Prop := s.n ≤ 1000000 ∧ spanB (.int (s.f : Int)) (.int (s.n : Int)) (.int s.w) (.int s.lo) (.int s.hi) = true
/-- spans as tuples or lists -/
def SpE (K : PySem.W.Frag) (H : Hp) (s : S5) (v : V) : Prop := ∃ b, v = .ref b ∧ SqE K H b s.vs
theorem SpE.ex {K : PySem.W.Frag} {H H' : Hp} {s : S5} {v : V} (h : SpE K H s v) (e : Ex H H') : SpE K H' s v := by
  obtain ⟨b, rfl, q⟩ := h
  exact ⟨b, rfl, SqE.ex q e⟩
def within (s o : S5) : Bool := decide (o.f ≤ s.f) && decide (s.f + s.n ≤ o.f + o.n)
def apart (s o : S5) : Bool := decide (s.f + s.n ≤ o.f) || decide (o.f + o.n ≤ s.f)
def clear (s o : S5) : Bool := apart s o || (within s o || within o s)
theorem scBehind : FnScope ["span"] ["span"] (defScope sBehind) := ⟨rfl, rfl, rfl, by decide +kernel, rfl, by decide +kernel, by decide +kernel⟩
def spBehind (K : PySem.W.Frag) : Sp := fun vs H Q _ => ∃ (s : S5) (v : V), vs = [v] ∧ SpE K H s v ∧ ∀ H', Ex H H' → Q (.int ((s.f + s.n : Nat) : Int)) H'
def spTwo (K : PySem.W.Frag) (g : S5 → S5 → Bool) : Sp := fun vs H Q _ => ∃ (s o : S5) (v u : V), vs = [v, u] ∧ SpE K H s v ∧ SpE K H o u ∧ ∀ H', Ex H H' → Q (.bl (g s o)) H'
section
variable {P : Program} {w : World} {K : PySem.W.Frag} {mg : Str → Option Value} {base : Heap} {f f1 f2 f3 : Addr} {fd d1 d2 d3 : FuncData}
theorem spBehind.use {H : Hp} {s : S5} {v : V} (h : SpE K H s v) : SpV (spBehind K) [v] H (.int ((s.f + s.n : Nat) : Int)) := fun H1 e Q q E => ⟨s, v, rfl, h.ex e, q⟩
theorem spTwo.use {g : S5 → S5 → Bool} {H : Hp} {s o : S5} {v u : V} (h : SpE K H s v) (h' : SpE K H o u) : SpV (spTwo K g) [v, u] H (.bl (g s o)) := fun H1 e Q q E => ⟨s, o, v, u, rfl, h.ex e, h'.ex e, q⟩
theorem ix0 (s : S5) : atI s.vs 0 = some (V.int (s.f : Int)) := atI_nat (xs := s.vs) (j := 0) rfl
theorem ix1 (s : S5) : atI s.vs 1 = some (V.int (s.n : Int)) := atI_nat (xs := s.vs) (j := 1) rfl
theorem ix2 (s : S5) : atI s.vs 2 = some (V.int s.w) := atI_nat (xs := s.vs) (j := 2) rfl
theorem ok_behind (F : Fun K "behind" "behind" sBehind f fd) : FnOk P w K mg base CX0 1 f fd ["span"] (spBehind K) := by
  refine F.ok scBehind (fun vs H Q E h => ?_) (fun cdv A outer s H vs Q E hr h => ?_)
  · obtain ⟨s, v, rfl, _⟩ := h
    rfl
  · obtain ⟨s, v, rfl, ⟨b, rfl, q⟩, kk⟩ := h
    refine ⟨_, (pss_one (ps_ret (pe_op op_add (pe_ix ix_seq (pv 0) pe_int (fun _ _ => rfl)) (pe_ix ix_seq (pv 0) pe_int (fun _ _ => rfl))))), ?_⟩
    exact s_ret (ev_op (ev_op (ev_var rfl) ev_c (rv_ixE q (ix0 s))) (ev_op (ev_var rfl) ev_c (rv_ixE q (ix1 s))) rv_I0) kk
end
end K13X
set_option Elab.async false
set_option linter.all false
set_option maxRecDepth 100000
set_option maxHeartbeats 4000000
namespace K13X
open K13 PySem PySem.Spec PyProof.Rows L2 GxR Pu Evl
/-- what is_span finds of a value -/
inductive SpanH (K : PySem.W.Frag) (H : Hp) : V → Bool → Prop
  | five {a : Addr} {x1 x2 x3 x4 x5 : V} (q : SqE K H a [x1, x2, x3, x4, x5]) (fl : ∀ x ∈ [x1, x2, x3, x4, x5], flatV x = true) (n9 : ∀ n, x2 = .int n → n ≤ 1000000) : SpanH K H (.ref a) (spanB x1 x2 x3 x4 x5)
  | few {a : Addr} {xs : List V} (q : SqE K H a xs) (n : xs.length ≠ 5) : SpanH K H (.ref a) false
  | no {x : V} (h : flatV x = true) : SpanH K H x false
/-- what are_spans finds of a value -/
inductive AreS (K : PySem.W.Frag) (H : Hp) : V → Bool → Prop
  | seq {e : Addr} {xs : List V} {bs : List Bool} (q : SqE K H e xs) (h : Paired (fun b v => SpanH K H v b) bs xs) : AreS K H (.ref e) (bs.all id)
  | no {x : V} (h : flatV x = true) : AreS K H x false
section
variable {K : PySem.W.Frag} {H H' : Hp}
theorem SpanH.of {s : S5} {v : V} (h : SpE K H s v) (ok : s.Ok) : SpanH K H v true := by
  obtain ⟨b, rfl, q⟩ := h
  have := SpanH.five q (fun x hx => by
    simp at hx
    rcases hx with rfl | rfl | rfl | rfl | rfl <;> rfl) fun n e => by cases e; have := ok.1; omega
  rw [ok.2] at this
  exact this
theorem SpanH.go {H1 : Hp} {x : V} {b : Bool} (h : SpanH K H x b) (e : ∀ a xs, SqE K H a xs → SqE K H1 a xs) : SpanH K H1 x b := by
  cases h with
  | five q fl n9 => exact .five (e _ _ q) fl n9
  | few q n => exact .few (e _ _ q) n
  | no h => exact .no h
theorem AreS.go {H1 : Hp} {x : V} {b : Bool} (h : AreS K H x b) (e : ∀ a xs, SqE K H a xs → SqE K H1 a xs) : AreS K H1 x b := by
  cases h with
  | seq q h => exact .seq (e _ _ q) (Paired.mapP h fun _ _ k => k.go e)
  | no h => exact .no h
theorem AreS.ex {x : V} {b : Bool} (h : AreS K H x b) (e : Ex H H') : AreS K H' x b := h.go fun _ _ q => SqE.ex q e
theorem AreS.of {L : List S5} {e : Addr} {xs : List V} (q : SqE K H e xs) (h : Paired (SpE K H) L xs) (ok : ∀ s ∈ L, s.Ok) : AreS K H (.ref e) true := by
  have go : ∀ {L : List S5} {xs : List V}, Paired (SpE K H) L xs → (∀ s ∈ L, s.Ok) → Paired (fun b v => SpanH K H v b) (L.map fun _ => true) xs := by
    intro L xs h
    induction h with
    | nil => intro _; exact .nil
    | cons a b ih => intro ok; exact .cons (SpanH.of a (ok _ (List.mem_cons_self ..))) (ih fun s hs => ok s (List.mem_cons_of_mem _ hs))
  have := AreS.seq q (go h ok)
  have e : (L.map fun _ => true).all id = true := by simp
  rw [e] at this
  exact this
end
theorem flat_ty {g : Heap} {x : V} (h : flatV x = true) : ∃ t, TyG g x t ∧ isSeq t = false := by
  cases x with
  | non => exact ⟨_, .non, rfl⟩
  | bl b => exact ⟨_, .bl b, rfl⟩
  | int i => exact ⟨_, .int i, rfl⟩
  | str s => exact ⟨_, .str s, rfl⟩
  | _ => cases h
theorem scAreSpans : FnScope ["value"] ["value"] (defScope sAreSpans) := ⟨rfl, rfl, rfl, by decide +kernel, rfl, by decide +kernel, by decide +kernel⟩
def spAreS (K : PySem.W.Frag) (Z : Tx) : Sp := fun vs H Q _ => ∃ (x : V) (b : Bool), vs = [x] ∧ AreS K H x b ∧ Z.Ok H ∧ ∀ H', Go Z [] H H' → Q (.bl b) H'
theorem vals_cons {v : V} {vs : List V} {us : List Value} (h : Vals (v :: vs) us) : ∃ u r, us = u :: r ∧ RelV v u ∧ Vals vs r := by
  cases h with | cons a b => exact ⟨_, _, rfl, a, b⟩
theorem range_all (bs : List Bool) : (List.range bs.length).all (fun i => bs.getD i false) = bs.all id := by
  rw [Bool.eq_iff_iff, List.all_eq_true, List.all_eq_true]
  constructor
  · intro h b hb
    obtain ⟨i, hi, rfl⟩ := List.getElem_of_mem hb
    have := h i (List.mem_range.mpr hi)
    rw [List.getD_eq_getElem?_getD, List.getElem?_eq_getElem hi] at this
    exact this
  · intro h i hi
    have hi := List.mem_range.mp hi
    rw [List.getD_eq_getElem?_getD, List.getElem?_eq_getElem hi]
    exact h _ (List.getElem_mem hi)
section
variable {P : Program} {w : World} {K : PySem.W.Frag} {mg : Str → Option Value} {base : Heap} {c T : Addr} {Z : Tx}
variable {fSp fSq : Addr} {dSp dSq : FuncData}
theorem ok_are_spans {f : Addr} {fd : FuncData} (M : L2.Mod K mg base) (G : Mg mg) (F : FunC K "are_spans" "are_spans" sAreSpans f fd c) (TB : TabB base mg c T) (hT : T ∈ Z.ts) (np : Z.p ∉ Z.ts)
    (F4 : Fns K mg "is_sequence" ["value"] sIsSequence fSq dSq) (F5 : Fns K mg "is_span" ["value"] sIsSpan fSp dSp) (G5 : PF P w K mg base 4 fSp dSp ["value"] pSpan) : FnOk P w K mg base CX0 6 f fd ["value"] (spAreS K Z) := by
  have G4 : FnOk P w K mg base CX0 1 fSq dSq ["value"] (spPure P w base ["value"] pSequence) := (pf_is_sequence M G F4.fn).ok
  refine F.ok scAreSpans (fun vs H Q E h => ?_) (fun A outer s H vs Q E hr h => ?_)
  · obtain ⟨x, b, rfl, _⟩ := h
    rfl
  · obtain ⟨x, b, rfl, ha, hz, kk⟩ := h
    refine ⟨_, pss_one (ps_ret (pe_and (pe_call G4 (hr.mono (by decide)) (by rfl) F4.mg F4.fn.kp F4.bd .nil pass0 (pa_cons (pv 0) pa_nil))
      (pe_one (pe_allQ (k := 4) (T := T) (c := c) (hr.mono (by decide)) (by rfl) G.all TB rfl (GenS.of rfl rfl (by decide +kernel) rfl rfl (by decide +kernel)) (pv 0))))), ?_⟩
    have e0 : ∀ (bq : Bool), (∀ H1, Ex H H1 → ∀ h, HOk P w H1 h → Ext base h → pSequence [x] h (.bl bq)) → Ev (tCall (spPure P w base ["value"] pSequence) [] E0 (tCons (tVar 0) tNil)) (start ["value"] [x]) H (.bl bq) := fun bq hb =>
      ev_call (ea_cons (ev_var rfl) ea_nil) (spPure.use rfl hb)
    cases ha with
    | no hf => exact e0 false (fun H1 e1 h ok bx => by obtain ⟨t, ty, hs⟩ := flat_ty hf; exact ⟨_, _, rfl, ty, by rw [hs]⟩) H (Ex.refl H) _ fun H1 e1 => ⟨false, rfl, iteF (kk H1 (Go.ex hz e1))⟩
    | @seq e xs bs he hw =>
      refine e0 true (fun H1 e1 h ok bx => by
        obtain ⟨bb, its, rv, sq⟩ := TyG.of_sq ok (M.kin.keeps bx) (SqE.ex he e1)
        exact ⟨_, _, rfl, TyG.seq sq, by cases bb <;> rfl⟩) H (Ex.refl H) _ fun H1 e1 => ⟨true, rfl, iteT ?_⟩
      have he1 := SqE.ex he e1
      have hw1 := Paired.mapP hw fun _ _ h => h.go (H1 := H1) fun _ _ q => SqE.ex q e1
      have hz1 := hz.ex e1
      have ht1 := hz1.gs T hT
      have bl : bs.length = xs.length := Paired.length hw
      refine ⟨.ref e, rfl, e, xs, fun i => bs.getD i false, rfl, he1, ht1, ?_, fun H4 t4 => ?_⟩
      · intro B' cenv g i v u hrm hs hg' hb hx hn hi rv ok
        obtain ⟨m, ns, hm⟩ := hn
        have FR : FrP K mg base B' cenv g := ⟨M, hx, by rw [hs], hg', hb, hrm.hd⟩
        obtain ⟨bv, hb1, sp⟩ := Pu.Paired.atR hw1 hi
        have val : ∀ {pos : Pos}, EV P w B' cenv g (.Name "span" pos) v := ev_loc FR (by show cenv.scope.names.lookup _ = _; rw [hs]; rfl) ns hm rv
        have sg : SpanG g v bv := by
          cases sp with
          | no hf =>
            obtain ⟨t, ty, hs⟩ := flat_ty (g := g) hf
            exact .few (.no ty hs) (fun z => nomatch z)
          | few q n =>
            obtain ⟨bb, its, rvs, sq⟩ := seq_at ht1 ok (M.kin.keeps hx) q
            refine .few (.seq sq) fun z => n ?_
            rw [rvs.length]
            exact Option.some.inj z
          | five q fl n9 =>
            obtain ⟨bb, its, rvs, sq⟩ := seq_at ht1 ok (M.kin.keeps hx) q
            obtain ⟨u1, r1, rfl, k1, q1⟩ := vals_cons rvs
            obtain ⟨u2, r2, rfl, k2, q2⟩ := vals_cons q1
            obtain ⟨u3, r3, rfl, k3, q3⟩ := vals_cons q2
            obtain ⟨u4, u5, rfl, k4, k5⟩ := vals2 q3
            obtain ⟨t1, y1, _⟩ := flat_ty (g := g) (fl _ (List.mem_cons_self ..))
            obtain ⟨t2, y2, _⟩ := flat_ty (g := g) (x := _) (fl _ (List.mem_cons_of_mem _ (List.mem_cons_self ..)))
            obtain ⟨t3, y3, _⟩ := flat_ty (g := g) (fl _ (List.mem_cons_of_mem _ (List.mem_cons_of_mem _ (List.mem_cons_self ..))))
            obtain ⟨t4, y4, _⟩ := flat_ty (g := g) (fl _ (List.mem_cons_of_mem _ (List.mem_cons_of_mem _ (List.mem_cons_of_mem _ (List.mem_cons_self ..)))))
            obtain ⟨t5, y5, _⟩ := flat_ty (g := g) (fl _ (List.mem_cons_of_mem _ (List.mem_cons_of_mem _ (List.mem_cons_of_mem _ (List.mem_cons_of_mem _ (List.mem_cons_self ..))))))
            exact .five sq k1 k2 k3 k4 k5 y1 y2 y3 y4 y5 n9
        have e5 : bs.getD i false = bv := by rw [List.getD_eq_getElem?_getD, hb1]; rfl
        show EV P w B' cenv g _ (.bl (bs.getD i false))
        rw [e5]
        exact ev_pf FR G5 hrm (by show cenv.scope.names.lookup _ = _; rw [hs]; rfl) F5.mg F5.fn.kp F5.bd (Pu.ea_cons val Pu.ea_nil) rfl fun h e => ⟨v, bv, rfl, sg.mono e, rfl⟩
      · show Q (.bl ((List.range xs.length).all fun i => bs.getD i false)) H4
        have e6 : (List.range xs.length).all (fun i => bs.getD i false) = bs.all id := by
          rw [← bl]
          exact range_all bs
        rw [e6]
        exact kk H4 ((Go.ex hz e1).trans (Go.tab hz1 hT np t4))
end
end K13X
set_option Elab.async false
set_option linter.all false
set_option maxRecDepth 100000
set_option maxHeartbeats 1000000
namespace K13
open PySem PySem.Spec PyProof.Rows L2 GxR Pu Evl Sh Sv
theorem SqE.go {K : PySem.W.Frag} {Z : Tx} {H H' : Hp} {a : Addr} {xs : List V} (h : SqE K H a xs) (g : Go Z [] H H') : SqE K H' a xs :=
  h.imp (fun q => kp_T (Z := Z) (M := []) Ls.nil q H' g) fun q => kp_L (Z := Z) (M := []) List.not_mem_nil q H' g
/-- does the last stamp go with so many rows -/
def lastB : Nat → V → Bool
  | 0, .non => true
  | 0, _ => false
  | _ + 1, x => isNum x
theorem lastB_la {l : Nat} {x : V} (h : lastB l x = true) : ∃ la, x = nonV la ∧ (la = none ↔ l = 0) := by
  cases l with
  | zero => cases x <;> first | exact ⟨none, rfl, by simp⟩ | cases h
  | succ l =>
    cases x with
    | int i =>
      have h := of_decide_eq_true (show decide (i ≥ 0) = true from h)
      exact ⟨some i.toNat, by show V.int i = .int (i.toNat : Int); rw [Int.toNat_of_nonneg h], by simp⟩
    | _ => cases h
def prs (L : List S5) : List (Nat × Nat) := L.map fun s => (s.f, s.n)
/-- what is_store finds of a value -/
inductive StH3 (K : PySem.W.Frag) (H : Hp) (k : Nat) : V → Bool → Prop
  | flat {v : V} (h : flatV v = true) : StH3 K H k v false
  | len {a : Addr} {xs : List V} (q : SqE K H a xs) (n : xs.length ≠ 3) : StH3 K H k (.ref a) false
  | laid {a : Addr} {x1 x2 x3 : V} (q : SqE K H a [x1, x2, x3]) (f : flatV x1 = true) (n : isNum x1 = false) : StH3 K H k (.ref a) false
  | spans {a : Addr} {l : Nat} {x2 x3 : V} (q : SqE K H a [.int (l : Int), x2, x3]) (h : K13X.AreS K H x3 false) : StH3 K H k (.ref a) false
  | last {a : Addr} {l : Nat} {x2 x3 : V} {b : Bool} (q : SqE K H a [.int (l : Int), x2, x3]) (h : K13X.AreS K H x3 b) (f : flatV x2 = true) (n : lastB l x2 = false) : StH3 K H k (.ref a) false
  | shape {a e : Addr} {l : Nat} {x2 : V} {xs : List V} {L : List S5} (q : SqE K H a [.int (l : Int), x2, .ref e]) (h : K13X.AreS K H (.ref e) true) (he : SqE K H e xs) (hw : Paired (SpE K H) L xs) (n : lastB l x2 = true) (hl : l ≤ 1000) (hL : L.length ≤ 2000) :
      StH3 K H k (.ref a) (decide (firstOf (L.map fun s => (s.f, s.n)) l ≤ l ∧ (L.map fun s => (s.f, s.n)) = shp k (firstOf (L.map fun s => (s.f, s.n)) l) l))
section
variable {K : PySem.W.Frag} {H H1 H' : Hp} {Z : Tx}
theorem ExT.fr {T : Addr} (t : ExT T H H') : ∀ b, H' b = none → H b = none := fun b z => by
  cases q : H b with
  | none => rfl
  | some o =>
    by_cases e : b = T
    · obtain ⟨ps, h, _⟩ := t.1
      rw [e, h] at z
      cases z
    · rw [t.2 b o e q] at z
      cases z
theorem StH3.go {k : Nat} {v : V} {b : Bool} (h : StH3 K H k v b) (e : ∀ a xs, SqE K H a xs → SqE K H1 a xs) : StH3 K H1 k v b := by
  cases h with
  | flat h => exact .flat h
  | len q n => exact .len (e _ _ q) n
  | laid q f n => exact .laid (e _ _ q) f n
  | spans q h => exact .spans (e _ _ q) (h.go e)
  | last q h f n => exact .last (e _ _ q) (h.go e) f n
  | shape q h he hw n hl hL => exact .shape (e _ _ q) (h.go e) (e _ _ he) (Paired.mapP hw fun s v ⟨b, h1, h2⟩ => ⟨b, h1, e _ _ h2⟩) n hl hL
theorem StH3.ex {k : Nat} {v : V} {b : Bool} (h : StH3 K H k v b) (e : Ex H H') : StH3 K H' k v b := h.go fun _ _ q => SqE.ex q e
theorem StH3.gs {k : Nat} {v : V} {b : Bool} (h : StH3 K H k v b) (e : Go Z [] H H') : StH3 K H' k v b := h.go fun _ _ q => SqE.go q e
end
def spIsStoreX (K : PySem.W.Frag) (Z : Tx) : Sp := fun vs H Q _ => ∃ (k : Nat) (v : V) (b : Bool), vs = [.int (k : Int), v] ∧ 2 ≤ k ∧ k ≤ 8 ∧ StH3 K H k v b ∧ Z.Ok H ∧ ∀ H', Go Z [] H H' → Q (.bl b) H'
section
variable {P : Program} {w : World} {K : PySem.W.Frag} {mg : Str → Option Value} {base : Heap} {σ : L2.St} {H H' : Hp} {Z : Tx} {U : Addr}
variable {fNN fNK fSF fNum fInt fPar fSq fSpa fISh fSO : Addr} {dNN dNK dSF dNum dInt dPar dSq dSpa dISh dSO : FuncData}
theorem ok_is_storeX {f : Addr} {fd : FuncData} (hU : U ∈ Z.ts) (np : Z.p ∉ Z.ts) (M : L2.Mod K mg base) (G : Mg mg) (F : Fun K "is_store" "is_store" sIsStore f fd) (B : Base P w K mg base fNN fNK fSF dNN dNK dSF)
    (F1 : Fns K mg "need_keep" ["keep"] sNeedKeep fNK dNK) (F2 : Fns K mg "is_of_parts" ["value", "many"] sIsOfParts fPar dPar) (F3 : Fns K mg "is_sequence" ["value"] sIsSequence fSq dSq) (F4 : Fns K mg "is_number" ["value"] sIsNumber fNum dNum) (F5 : Fns K mg "is_integer" ["value"] sIsInteger fInt dInt)
    (F6 : Fns K mg "are_spans" ["value"] sAreSpans fSpa dSpa) (G6 : FnOk P w K mg base CX0 6 fSpa dSpa ["value"] (K13X.spAreS K Z)) (F7 : Fns K mg "is_shape" ["keep", "laid", "value"] sIsShape fISh dISh) (G7 : FnOk P w K mg base CX0 6 fISh dISh ["keep", "laid", "value"] (spShapeP K U))
    (F8 : Fns K mg "shape_of" ["store"] sShapeOf fSO dSO) (G8 : FnOk P w K mg base CX0 1 fSO dSO ["store"] (spShapeOf K)) : FnOk P w K mg base CX0 7 f fd ["keep", "value"] (spIsStoreX K Z) := by
  have G2 : FnOk P w K mg base CX0 2 fPar dPar ["value", "many"] (spPure P w base ["value", "many"] pOfParts) := (pf_is_of_parts M G F2.fn F3.fn F3.bd F3.mg).ok
  have G4 : FnOk P w K mg base CX0 2 fNum dNum ["value"] (spPure P w base ["value"] pNumber) := (pf_is_number M G F4.fn F5.fn F5.bd F5.mg).ok
  refine F.ok scIsStore (fun vs H Q E h => ?_) (fun cdv A outer s H vs Q E hr h => ?_)
  · obtain ⟨k, v, b, rfl, _⟩ := h
    rfl
  · obtain ⟨k, v, b, rfl, k2, k8, hs, hz, kk⟩ := h
    refine ⟨_, pss_cons (ps_expr (pe_call B.nk (hr.mono (by decide)) (by rfl) F1.mg F1.fn.kp F1.bd .nil pass0 (pa_cons (pv 0) pa_nil)))
      (pss_cons (ps_if (pt_not (pt_val (pe_call G2 (hr.mono (by decide)) (by rfl) F2.mg F2.fn.kp F2.bd .nil pass0 (pa_cons (pv 1) (pa_cons pe_int pa_nil))))) (pss_one (ps_ret pe_bl)) pss_nil)
      (pss_cons (ps_asg (pv 1) (pg_seq rfl (pgs_cons (pg_name (i := 2) scIsStore.nd rfl (.inl rfl)) (pgs_cons (pg_name (i := 3) scIsStore.nd rfl (.inl rfl)) (pgs_cons (pg_name (i := 4) scIsStore.nd rfl (.inl rfl)) pgs_nil)))))
      (pss_cons (ps_if (PW.pt (pw_or (pt_not (pt_val (pe_call G4 (hr.mono (by decide)) (by rfl) F4.mg F4.fn.kp F4.bd .nil pass0 (pa_cons (pv 2) pa_nil)))) (pw_or1 (pt_not (pt_val (pe_call G6 hr (by rfl) F6.mg F6.fn.kp F6.bd .nil pass0 (pa_cons (pv 4) pa_nil))))))) (pss_one (ps_ret pe_bl)) pss_nil)
      (pss_cons (ps_if (PW.pt (pw_or (PW.pt (pw_and (pt_cmpR op_eq (pv 2) pe_int (nomark _)) (pw_and1 (pt_cmp (pc_notN (pv 3)))))) (pw_or1 (PW.pt (pw_and (pt_cmpR op_gt (pv 2) pe_int (nomark _)) (pw_and1 (pt_not (pt_val (pe_call G4 (hr.mono (by decide)) (by rfl) F4.mg F4.fn.kp F4.bd .nil pass0 (pa_cons (pv 3) pa_nil)))))))))) (pss_one (ps_ret pe_bl)) pss_nil)
      (pss_one (ps_ret (pe_call G7 hr (by rfl) F7.mg F7.fn.kp F7.bd .nil pass0 (pa_cons (pv 0) (pa_cons (pv 2) (pa_cons (pe_call G8 (hr.mono (by decide)) (by rfl) F8.mg F8.fn.kp F8.bd .nil pass0 (pa_cons (pv 1) pa_nil)) pa_nil)))))))))), ?_⟩
    refine q_drop (v := .non) (ev_call (ea_cons (ev_var rfl) ea_nil) (spV.use fun H1 _ => ⟨k, rfl, by omega, by omega, rfl⟩)) fun H1 e1 => ?_
    have hs1 := hs.ex e1
    have g1 : Go Z [] H H1 := Go.ex hz e1
    have part : ∀ b, (∀ H2, Ex H1 H2 → ∀ h, HOk P w H2 h → Ext base h → pOfParts [v, .int 3] h (.bl b)) → Ev (tCall (spPure P w base ["value", "many"] pOfParts) [] E0 (tCons (tVar 1) (tCons (tC (.int 3)) tNil))) (start ["keep", "value", "laid", "last", "spans"] [.int (k : Int), v]) H1 (.bl b) := fun b hb => ev_call (ea_cons (ev_var rfl) (ea_cons ev_c ea_nil)) (spPure.use rfl hb)
    have en : ∀ {σ : L2.St} {H3 : Hp} {i : Nat} {x : V}, σ[i]? = some (some x) → flatV x = true → Ev (tCall (spPure P w base ["value"] pNumber) [] E0 (tCons (tVar i) tNil)) σ H3 (.bl (isNum x)) := fun {σ H3 i x} hi fx => ev_call (ea_cons (ev_var hi) ea_nil) (spPure.use rfl fun H1 _ g _ _ => by
      obtain ⟨t, ty, _⟩ := flat_ty (g := g) fx
      exact ⟨_, t, rfl, ty, rfl⟩)
    have cs : ((∀ H2, Ex H1 H2 → ∀ h, HOk P w H2 h → Ext base h → pOfParts [v, .int 3] h (.bl false)) ∧ b = false) ∨ ∃ a x1 x2 x3, v = .ref a ∧ SqE K H1 a [x1, x2, x3] ∧ flatV x1 = true ∧ ((isNum x1 = false ∧ b = false) ∨ ∃ l : Nat, x1 = .int (l : Int) ∧ ∃ b', K13X.AreS K H1 x3 b' ∧ (b' = false → b = false) ∧
        (b' = true → flatV x2 = true ∧ ((lastB l x2 = false ∧ b = false) ∨ ∃ e xs L, x3 = .ref e ∧ SqE K H1 e xs ∧ Paired (SpE K H1) L xs ∧ lastB l x2 = true ∧ l ≤ 1000 ∧ L.length ≤ 2000 ∧ b = decide (firstOf (L.map fun s => (s.f, s.n)) l ≤ l ∧ (L.map fun s => (s.f, s.n)) = shp k (firstOf (L.map fun s => (s.f, s.n)) l) l)))) := by
      cases hs1 with
      | flat h => exact .inl ⟨fun H2 e2 g ok bx => by
          obtain ⟨t, ty, hn⟩ := flat_ty (g := g) h
          exact ⟨_, none, _, rfl, .no ty hn, rfl⟩, rfl⟩
      | len q n => exact .inl ⟨fun H2 e2 g ok bx => by
          obtain ⟨bb, its, rv, sq⟩ := TyG.of_sq ok (M.kin.keeps bx) (SqE.ex q e2)
          exact ⟨_, _, _, rfl, .seq sq, by rw [← rv.length]; exact congrArg V.bl (decide_eq_false (by omega)).symm⟩, rfl⟩
      | laid q f n => exact .inr ⟨_, _, _, _, rfl, q, f, .inl ⟨n, rfl⟩⟩
      | spans q h => exact .inr ⟨_, _, _, _, rfl, q, rfl, .inr ⟨_, rfl, _, h, fun _ => rfl, (fun z => nomatch z)⟩⟩
      | last q h f n => exact .inr ⟨_, _, _, _, rfl, q, rfl, .inr ⟨_, rfl, _, h, fun _ => rfl, fun _ => ⟨f, .inl ⟨n, rfl⟩⟩⟩⟩
      | shape q h he hw n hl hL =>
        refine .inr ⟨_, _, _, _, rfl, q, rfl, .inr ⟨_, rfl, _, h, (fun z => nomatch z), fun _ => ⟨?_, .inr ⟨_, _, _, rfl, he, hw, n, hl, hL, rfl⟩⟩⟩⟩
        obtain ⟨la, rfl, _⟩ := lastB_la n
        cases la <;> rfl
    rcases cs with ⟨pf, rfl⟩ | ⟨a, x1, x2, x3, rfl, hq, f1, cs⟩
    · refine part false pf H1 (Ex.refl H1) _ fun H2 e2 => ⟨false, rfl, ite2 (fun _ => kk H2 (g1.then e2)) fun z => absurd rfl z⟩
    refine part true (fun H2 e2 g ok bx => by
      obtain ⟨bb, its, rv, sq⟩ := TyG.of_sq ok (M.kin.keeps bx) (SqE.ex hq e2)
      exact ⟨_, _, _, rfl, .seq sq, by rw [← rv.length]; rfl⟩) H1 (Ex.refl H1) _ fun H2 e2 => ⟨true, rfl, ite2 (fun z => nomatch z) fun _ => ?_⟩
    refine ⟨_, rfl, a, _, rfl, SqE.ex hq e2, rfl, _, _, rfl, _, _, rfl, _, _, rfl, rfl, ?_⟩
    refine en rfl f1 H2 (Ex.refl H2) _ fun H3 e3 => ⟨_, rfl, ?_⟩
    rcases cs with ⟨n1, rfl⟩ | ⟨l, rfl, b', ha, hf, ht⟩
    · rw [n1]
      exact ite2 (fun _ => kk H3 ((g1.then e2).then e3)) fun z => absurd rfl z
    rw [show isNum (.int (l : Int)) = true from decide_eq_true (show (l : Int) ≥ 0 by omega)]
    refine ite2 (fun z => nomatch z) fun _ => ?_
    have e23 := e2.trans e3
    have g3 : Go Z [] H H3 := g1.then e23
    refine ⟨_, rfl, x3, b', rfl, ha.ex e23, g3.ok, fun H4 x4 => ⟨b', rfl, ?_⟩⟩
    have g4 : Go Z [] H H4 := g3.trans x4
    cases b' with
    | false =>
      rw [hf rfl] at kk
      exact ite2 (fun _ => kk H4 g4) fun z => absurd rfl z
    | true =>
      refine ite2 (fun z => nomatch z) fun _ => ?_
      obtain ⟨f2, ht⟩ := ht rfl
      have hno : lastB l x2 = false → b = false := fun z => ht.elim (fun q => q.2) fun ⟨_, _, _, _, _, _, y, _⟩ => by rw [z] at y; cases y
      have fin : ∀ H5, Ex H4 H5 → lastB l x2 = true → (tRet (tCall (spShapeP K U) [] E0 (tCons (tVar 0) (tCons (tVar 2) (tCons (tCall (spShapeOf K) [] E0 (tCons (tVar 1) tNil)) tNil))))) { nx := fun x H' => Q V.non H', rt := Q } [some (.int (k : Int)), some (.ref a), some (.int (l : Int)), some x2, some x3] H5 := fun H5 e5 hy => by
        rcases ht with ⟨z, _⟩ | ⟨e, xs, L, rfl, he, hw, _, hl, hL, rfl⟩
        · rw [z] at hy; cases hy
        obtain ⟨la, rfl, hla⟩ := lastB_la hy
        have g5 : Go Z [] H H5 := g4.then e5
        have x15 : Go Z [] H1 H5 := ((Go.ex g1.ok e23).trans x4).then e5
        refine ⟨_, rfl, _, rfl, _, rfl, l, la, L, .ref a, rfl, ⟨a, e, xs, rfl, SqE.go hq x15, SqE.go he x15, Paired.mapP hw fun s v ⟨b, h1, h2⟩ => ⟨b, h1, SqE.go h2 x15⟩⟩, hL, fun q ys H6 hq6 e6 h6 p6 => ?_⟩
        have g6 : Go Z [] H H6 := g5.then e6
        refine ⟨k, l, L.map fun s => (s.f, s.n), .ref q, rfl, k2, k8, hl, by rw [List.length_map]; exact hL, ShIn.of h6 p6, g6.ok.gs U hU, fun H7 x7 => kk H7 ?_⟩
        exact g6.trans (Go.ofT g6.ok hU np x7 (ExT.fr x7))
      cases l with
      | zero =>
        refine ⟨_, rfl, rfl, _, rfl, ite2 (fun _ => ⟨_, rfl, _, rfl, ?_⟩) fun z => absurd (by simp) z⟩
        have no : lastB 0 x2 = false → Q (.bl false) H4 := fun z => by
          have := kk H4 g4
          rw [hno z] at this
          exact this
        cases x2 with
        | non => exact ite2 (fun z => nomatch z) fun _ => ⟨_, rfl, _, _, rfl, rfl, _, rfl, ite2 (fun z => absurd (of_decide_eq_true z) (by simp)) fun _ => fin H4 (Ex.refl H4) rfl⟩
        | bl b => exact ite2 (fun _ => no rfl) fun z => absurd rfl z
        | int i => exact ite2 (fun _ => no rfl) fun z => absurd rfl z
        | str s => exact ite2 (fun _ => no rfl) fun z => absurd rfl z
        | _ => cases f2
      | succ l =>
        refine ⟨_, rfl, rfl, _, rfl, ite2 (fun z => absurd z (by simp; omega)) fun _ => ?_⟩
        refine ⟨_, rfl, _, _, rfl, rfl, _, rfl, ite2 (fun _ => ?_) fun z => absurd (decide_eq_true (show (0 : Int) < ((l + 1 : Nat) : Int) by omega)) z⟩
        refine en rfl f2 H4 (Ex.refl H4) _ fun H5 e5 => ⟨_, rfl, ?_⟩
        cases c : isNum x2 with
        | true => exact ite2 (fun z => nomatch z) fun _ => fin H5 e5 c
        | false =>
          have := kk H5 (g4.then e5)
          rw [hno c] at this
          exact ite2 (fun _ => this) fun z => absurd rfl z
end
end K13
set_option Elab.async false
set_option linter.all false
set_option maxRecDepth 100000
set_option maxHeartbeats 1000000
namespace K13
open PySem PySem.Spec PyProof.Rows L2 GxR Pu Evl
abbrev nLay : List Str := ["store", "keep", "stamp", "value", "laid", "last", "spans", "grown", "span"]
abbrev nLetGo : List Str := ["store", "below", "laid", "last", "spans", "span"]
abbrev nSpanWith : List Str := ["store", "row", "laid", "_", "spans", "span"]
abbrev nIsStore : List Str := ["keep", "value", "laid", "last", "spans"]
abbrev nLaidAll : List Str := ["keep", "rows", "store", "stamp", "told"]
/-- a call that is refused at x -/
def spBad (Z : Tx) (C : Addr) (pre : List V → Hp → V → Prop) : Sp := fun vs H Q E => ∃ x, pre vs H x ∧ Z.Ok H ∧ ∀ d H', Go Z [] H H' → H' d = none → E (.ref C) (some d) (upd H' d (.xd [("at", x)]))
/-- a stamp that is none, or no later than the last -/
def badSt (la : Option Nat) : V → Prop
  | .int i => i < 0 ∨ ∃ n, la = some n ∧ i ≤ (n : Int)
  | _ => True
def pBadKeep (n : Nat) : List V → Hp → V → Prop := fun vs H x => vs.length = n ∧ flatV x = true ∧ keepB x = false
def pBadLayK : List V → Hp → V → Prop := fun vs H x => ∃ s y z, vs = [s, x, y, z] ∧ flatV x = true ∧ keepB x = false
def pBadLayS : List V → Hp → V → Prop := fun vs H x => ∃ (k l : Nat) (la : Option Nat) (L : List S5) (s z : V), vs = [s, .int (k : Int), x, z] ∧ 2 ≤ k ∧ k ≤ 8 ∧ StH H l la L s ∧ flatV x = true ∧ badSt la x
def pBadLayV : List V → Hp → V → Prop := fun vs H x => ∃ (k l st : Nat) (la : Option Nat) (L : List S5) (s : V), vs = [s, .int (k : Int), .int (st : Int), x] ∧ 2 ≤ k ∧ k ≤ 8 ∧ StH H l la L s ∧ (∀ n, la = some n → n < st) ∧ flatV x = true ∧ K13X.readB x = false
def pBadLay : List V → Hp → V → Prop := fun vs H x => pBadLayK vs H x ∨ pBadLayS vs H x ∨ pBadLayV vs H x
def pBadGo : List V → Hp → V → Prop := fun vs H x => ∃ s, vs = [s, x] ∧ flatV x = true ∧ isNum x = false
def badRow (l : Nat) : V → Prop
  | .int i => i < 0 ∨ (l : Int) ≤ i
  | _ => True
def pBadRow : List V → Hp → V → Prop := fun vs H x => ∃ (l : Nat) (la : Option Nat) (L : List S5) (s : V), vs = [s, x] ∧ StH H l la L s ∧ flatV x = true ∧ badRow l x
def pBad2 : List V → Hp → V → Prop := fun vs H x => ∃ y, vs = [x, y] ∧ flatV x = true ∧ keepB x = false
section
variable {P : Program} {w : World} {K : PySem.W.Frag} {mg : Str → Option Value} {base : Heap} {Z : Tx}
variable {fNK fNN fNum fRd fI C : Addr} {dNK dNN dNum dRd dI : FuncData}
theorem keepB_nat {k : Nat} (h2 : 2 ≤ k) (h8 : k ≤ 8) : keepB (.int (k : Int)) = true := by
  show (decide (2 ≤ (k : Int)) && decide ((k : Int) ≤ 8)) = true
  rw [decide_eq_true (by omega), decide_eq_true (by omega)]
  rfl
theorem ok_badStore {f : Addr} {fd : FuncData} (F : Fun K "is_store" "is_store" sIsStore f fd) (C1 : CalX P w K mg base "need_keep" ["keep"] sNeedKeep 3 (spNeed K Z C keepB) fNK dNK) : FnOk P w K mg base (L2.CX P w) 4 f fd ["keep", "value"] (spBad Z C pBad2) := by
  refine F.okX scIsStore (fun vs H Q E h => ?_) (fun cdv A outer s H vs Q E hr h => ?_)
  · obtain ⟨x, ⟨y, rfl, _⟩, _⟩ := h
    rfl
  · obtain ⟨x, ⟨y, rfl, fx, bx⟩, hz, kE⟩ := h
    have tk : Takes (cxOf (L2.CX P w) P w K mg base nIsStore "is_store" (defScope sIsStore) f cdv A outer s H E) (fun cls d _ H' => E cls d H') := takes_of (X := cxOf (L2.CX P w) P w K mg base nIsStore "is_store" (defScope sIsStore) f cdv A outer s H E) rfl rfl rfl rfl
    refine ⟨_, pss_cons (ps_expr (pe_call C1.ok hr (by rfl) C1.ns.mg C1.ns.fn.kp C1.ns.bd .nil (passes_call tk fun _ _ _ _ h => h) (pa_cons (pv 0) pa_nil))) pss_never, ?_⟩
    exact ⟨x, rfl, x, rfl, hz, fx, .inl ⟨bx, kE⟩⟩
theorem ok_badLaid {f : Addr} {fd : FuncData} (F : Fun K "laid_all" "laid_all" sLaidAll f fd) (C1 : CalX P w K mg base "need_keep" ["keep"] sNeedKeep 3 (spNeed K Z C keepB) fNK dNK) : FnOk P w K mg base (L2.CX P w) 4 f fd ["keep", "rows"] (spBad Z C pBad2) := by
  refine F.okX scLaidAll (fun vs H Q E h => ?_) (fun cdv A outer s H vs Q E hr h => ?_)
  · obtain ⟨x, ⟨y, rfl, _⟩, _⟩ := h
    rfl
  · obtain ⟨x, ⟨y, rfl, fx, bx⟩, hz, kE⟩ := h
    have tk : Takes (cxOf (L2.CX P w) P w K mg base nLaidAll "laid_all" (defScope sLaidAll) f cdv A outer s H E) (fun cls d _ H' => E cls d H') := takes_of (X := cxOf (L2.CX P w) P w K mg base nLaidAll "laid_all" (defScope sLaidAll) f cdv A outer s H E) rfl rfl rfl rfl
    refine ⟨_, pss_cons (ps_expr (pe_call C1.ok hr (by rfl) C1.ns.mg C1.ns.fn.kp C1.ns.bd .nil (passes_call tk fun _ _ _ _ h => h) (pa_cons (pv 0) pa_nil))) pss_never, ?_⟩
    exact ⟨x, rfl, x, rfl, hz, fx, .inl ⟨bx, kE⟩⟩
theorem ok_badGo {f : Addr} {fd : FuncData} (F : Fun K "let_go" "let_go" sLetGo f fd) (C1 : CalX P w K mg base "need_number" ["value"] sNeedNumber 3 (spNeed K Z C isNum) fNN dNN) : FnOk P w K mg base (L2.CX P w) 4 f fd ["store", "below"] (spBad Z C pBadGo) := by
  refine F.okX scLetGo (fun vs H Q E h => ?_) (fun cdv A outer s H vs Q E hr h => ?_)
  · obtain ⟨x, ⟨y, rfl, _⟩, _⟩ := h
    rfl
  · obtain ⟨x, ⟨y, rfl, fx, bx⟩, hz, kE⟩ := h
    have tk : Takes (cxOf (L2.CX P w) P w K mg base nLetGo "let_go" (defScope sLetGo) f cdv A outer s H E) (fun cls d _ H' => E cls d H') := takes_of (X := cxOf (L2.CX P w) P w K mg base nLetGo "let_go" (defScope sLetGo) f cdv A outer s H E) rfl rfl rfl rfl
    refine ⟨_, pss_cons (ps_expr (pe_call C1.ok hr (by rfl) C1.ns.mg C1.ns.fn.kp C1.ns.bd .nil (passes_call tk fun _ _ _ _ h => h) (pa_cons (pv 1) pa_nil))) pss_never, ?_⟩
    exact ⟨x, rfl, x, rfl, hz, fx, .inl ⟨bx, kE⟩⟩
theorem ok_badRow {f : Addr} {fd : FuncData} (R : RefC K C fI) (FI : FnOk P w K mg base CX0 1 fI dI ["self", "at"] (spInitAt C)) (bI : Binds K dI ["self", "at"] []) (mC : mg "Refused" = some (.ref C))
    (F : Fun K "span_with" "span_with" sSpanWith f fd) (C1 : Cal P w K mg base "is_number" ["value"] sIsNumber 2 (spPure P w base ["value"] pNumber) fNum dNum) : FnOk P w K mg base (L2.CX P w) 3 f fd ["store", "row"] (spBad Z C pBadRow) := by
  refine F.okX scSpanWith (fun vs H Q E h => ?_) (fun cdv A outer s H vs Q E hr h => ?_)
  · obtain ⟨x, ⟨l, la, L, y, rfl, _⟩, _⟩ := h
    rfl
  · obtain ⟨x, ⟨l, la, L, y, rfl, hs, fx, bx⟩, hz, kE⟩ := h
    have tk : Takes (cxOf (L2.CX P w) P w K mg base nSpanWith "span_with" (defScope sSpanWith) f cdv A outer s H E) (fun cls d _ H' => E cls d H') := takes_of (X := cxOf (L2.CX P w) P w K mg base nSpanWith "span_with" (defScope sSpanWith) f cdv A outer s H E) rfl rfl rfl rfl
    refine ⟨_, pss_cons (ps_asg (pv 0) (pg_seq rfl (pgs_cons (pg_name (i := 2) scSpanWith.nd rfl (.inl rfl)) (pgs_cons (pg_name (i := 3) scSpanWith.nd rfl (.inl rfl)) (pgs_cons (pg_name (i := 4) scSpanWith.nd rfl (.inl rfl)) pgs_nil)))))
      (pss_cons (ps_if (PW.pt (pw_or (pt_not (pt_val (pe_call C1.ok (hr.mono (by decide)) (by rfl) C1.ns.mg C1.ns.fn.kp C1.ns.bd .nil pass0 (pa_cons (pv 1) pa_nil)))) (pw_or1 (pt_cmpR op_ge (pv 1) (pv 2) (nomark _))))) (pss_one (ps_ref R FI (hr.mono (by decide)) bI rfl tk rfl mC (pv 1))) pss_nil)
      pss_never), ?_⟩
    obtain ⟨a, e, xs, rfl, ha, he, hw⟩ := hs
    refine ⟨_, rfl, a, _, rfl, ha.e, rfl, _, _, rfl, _, _, rfl, _, _, rfl, rfl, ?_⟩
    have e0 : Ev (tCall (spPure P w base ["value"] pNumber) [] E0 (tCons (tVar 1) tNil)) ([some (.ref a), some x, some (.int (l : Int)), some (nonV la), some (.ref e), none] : L2.St) H (.bl (isNum x)) := ev_call (ea_cons (ev_var rfl) ea_nil) (spPure.use rfl fun H1 _ g _ _ => by
      obtain ⟨t, ty, _⟩ := flat_ty (g := g) fx
      exact ⟨_, t, rfl, ty, rfl⟩)
    refine e0 H (Ex.refl H) _ fun H1 e1 => ⟨_, rfl, ?_⟩
    have g1 : Go Z [] H H1 := Go.ex hz e1
    have out : tRef C (tVar 1) (fun cls d _ H' => E cls d H') { nx := fun _ H' => Q V.non H', rt := Q } ([some (.ref a), some x, some (.int (l : Int)), some (nonV la), some (.ref e), none] : L2.St) H1 := ⟨x, rfl, fun d hd => kE d H1 g1 hd⟩
    cases c : isNum x with
    | false => exact ite2 (fun _ => out) fun z => absurd rfl z
    | true =>
      cases x with
      | int i =>
        have c0 := of_decide_eq_true (show decide (i ≥ 0) = true from c)
        refine ite2 (fun z => nomatch z) fun _ => ⟨_, rfl, _, rfl, _, _, rfl, rfl, _, rfl, ite2 (fun _ => out) fun z => ?_⟩
        rcases (show i < 0 ∨ (l : Int) ≤ i from bx) with q | q
        · omega
        · exact absurd (decide_eq_true q) z
      | _ => cases c
theorem ok_badLay {f : Addr} {fd : FuncData} (R : RefC K C fI) (FI : FnOk P w K mg base CX0 1 fI dI ["self", "at"] (spInitAt C)) (bI : Binds K dI ["self", "at"] []) (mC : mg "Refused" = some (.ref C))
    (F : Fun K "lay" "lay" sLay f fd) (C1 : CalX P w K mg base "need_keep" ["keep"] sNeedKeep 3 (spNeed K Z C keepB) fNK dNK) (C2 : Cal P w K mg base "is_number" ["value"] sIsNumber 2 (spPure P w base ["value"] pNumber) fNum dNum)
    (C3 : Cal P w K mg base "is_reading" ["value"] sIsReading 2 (spPure P w base ["value"] K13X.pReading) fRd dRd) : FnOk P w K mg base (L2.CX P w) 4 f fd ["store", "keep", "stamp", "value"] (spBad Z C pBadLay) := by
  refine F.okX scLay (fun vs H Q E h => ?_) (fun cdv A outer s H vs Q E hr h => ?_)
  · obtain ⟨x, h | h | h, _⟩ := h
    · obtain ⟨_, _, _, rfl, _⟩ := h; rfl
    · obtain ⟨_, _, _, _, _, _, rfl, _⟩ := h; rfl
    · obtain ⟨_, _, _, _, _, _, rfl, _⟩ := h; rfl
  · obtain ⟨x, h, hz, kE⟩ := h
    have tk : Takes (cxOf (L2.CX P w) P w K mg base nLay "lay" (defScope sLay) f cdv A outer s H E) (fun cls d _ H' => E cls d H') := takes_of (X := cxOf (L2.CX P w) P w K mg base nLay "lay" (defScope sLay) f cdv A outer s H E) rfl rfl rfl rfl
    refine ⟨_, pss_cons (ps_expr (pe_call C1.ok hr (by rfl) C1.ns.mg C1.ns.fn.kp C1.ns.bd .nil (passes_call tk fun _ _ _ _ h => h) (pa_cons (pv 1) pa_nil)))
      (pss_cons (ps_asg (pv 0) (pg_seq rfl (pgs_cons (pg_name (i := 4) scLay.nd rfl (.inl rfl)) (pgs_cons (pg_name (i := 5) scLay.nd rfl (.inl rfl)) (pgs_cons (pg_name (i := 6) scLay.nd rfl (.inl rfl)) pgs_nil)))))
      (pss_cons (ps_if (PW.pt (pw_or (pt_not (pt_val (pe_call C2.ok (hr.mono (by decide)) (by rfl) C2.ns.mg C2.ns.fn.kp C2.ns.bd .nil pass0 (pa_cons (pv 2) pa_nil)))) (pw_or1 (PW.pt (pw_and (pt_cmp (pc_notN (pv 5))) (pw_and1 (pt_cmpR op_le (pv 2) (pv 5) (nomark _)))))))) (pss_one (ps_ref R FI (hr.mono (by decide)) bI rfl tk rfl mC (pv 2))) pss_nil)
      (pss_cons (ps_if (pt_not (pt_val (pe_call C3.ok (hr.mono (by decide)) (by rfl) C3.ns.mg C3.ns.fn.kp C3.ns.bd .nil pass0 (pa_cons (pv 3) pa_nil)))) (pss_one (ps_ref R FI (hr.mono (by decide)) bI rfl tk rfl mC (pv 3))) pss_nil)
      pss_never))), ?_⟩
    have en : ∀ {σ : L2.St} {H3 : Hp} {i : Nat} {x : V}, σ[i]? = some (some x) → flatV x = true → Ev (tCall (spPure P w base ["value"] pNumber) [] E0 (tCons (tVar i) tNil)) σ H3 (.bl (isNum x)) := fun {σ H3 i x} hi fx => ev_call (ea_cons (ev_var hi) ea_nil) (spPure.use rfl fun H1 _ g _ _ => by
      obtain ⟨t, ty, _⟩ := flat_ty (g := g) fx
      exact ⟨_, t, rfl, ty, rfl⟩)
    have er : ∀ {σ : L2.St} {H3 : Hp} {i : Nat} {x : V}, σ[i]? = some (some x) → flatV x = true → Ev (tCall (spPure P w base ["value"] K13X.pReading) [] E0 (tCons (tVar i) tNil)) σ H3 (.bl (K13X.readB x)) := fun {σ H3 i x} hi fx => ev_call (ea_cons (ev_var hi) ea_nil) (spPure.use rfl fun H1 _ g _ _ => by
      obtain ⟨t, ty, _⟩ := flat_ty (g := g) fx
      exact ⟨_, t, rfl, ty, rfl⟩)
    rcases h with h | h | h
    · obtain ⟨sv, y, z, rfl, fx, bx⟩ := h
      exact ⟨x, rfl, x, rfl, hz, fx, .inl ⟨bx, kE⟩⟩
    · obtain ⟨k, l, la, L, sv, z, rfl, k2, k8, hs, fx, bx⟩ := h
      refine ⟨_, rfl, _, rfl, hz, rfl, .inr ⟨keepB_nat k2 k8, fun H1 e1 => ?_⟩⟩
      obtain ⟨a, e, xs, rfl, ha, he, hw⟩ := hs
      refine ⟨_, rfl, a, _, rfl, (ha.ex e1).e, rfl, _, _, rfl, _, _, rfl, _, _, rfl, rfl, ?_⟩
      have out : ∀ H2, Ex H1 H2 → tRef C (tVar 2) (fun cls d _ H' => E cls d H') { nx := fun _ H' => Q V.non H', rt := Q } ([some (.ref a), some (.int (k : Int)), some x, some z, some (.int (l : Int)), some (nonV la), some (.ref e), none, none] : L2.St) H2 := fun H2 e2 => ⟨x, rfl, fun d hd => kE d H2 ((Go.ex hz e1).then e2) hd⟩
      refine en rfl fx H1 (Ex.refl H1) _ fun H2 e2 => ⟨_, rfl, ?_⟩
      cases c : isNum x with
      | false => exact ite2 (fun _ => out H2 e2) fun z => absurd rfl z
      | true =>
        cases x with
        | int i =>
          have c0 := of_decide_eq_true (show decide (i ≥ 0) = true from c)
          refine ite2 (fun z => nomatch z) fun _ => ?_
          rcases (show i < 0 ∨ ∃ n, la = some n ∧ i ≤ (n : Int) from bx) with q | ⟨n, rfl, q⟩
          · omega
          · exact ⟨_, rfl, _, rfl, ite2 (fun _ => ⟨_, rfl, _, rfl, _, _, rfl, rfl, _, rfl, ite2 (fun _ => out H2 e2) fun z => absurd (decide_eq_true q) z⟩) fun z => absurd rfl z⟩
        | _ => cases c
    · obtain ⟨k, l, st, la, L, sv, rfl, k2, k8, hs, hla, fx, bx⟩ := h
      refine ⟨_, rfl, _, rfl, hz, rfl, .inr ⟨keepB_nat k2 k8, fun H1 e1 => ?_⟩⟩
      obtain ⟨a, e, xs, rfl, ha, he, hw⟩ := hs
      refine ⟨_, rfl, a, _, rfl, (ha.ex e1).e, rfl, _, _, rfl, _, _, rfl, _, _, rfl, rfl, ?_⟩
      dsimp only
      refine q_when (b := false) ?_ (fun z => nomatch z) fun _ H2 e2 => ?_
      · intro H3 e3 Q3 q3
        refine en rfl rfl H3 (Ex.refl H3) _ fun H4 e4 => ⟨_, rfl, ?_⟩
        rw [show isNum (.int (st : Int)) = true from decide_eq_true (show (st : Int) ≥ 0 by omega)]
        refine ite2 (fun z => nomatch z) fun _ => ?_
        cases la with
        | none => exact ⟨_, rfl, _, rfl, ite2 (fun z => nomatch z) fun _ => q3 H4 e4⟩
        | some n =>
          refine ⟨_, rfl, _, rfl, ite2 (fun _ => ⟨_, rfl, _, rfl, _, _, rfl, rfl, _, rfl, ?_⟩) fun z => absurd rfl z⟩
          have := hla n rfl
          rw [decide_eq_false (by omega)]
          exact q3 H4 e4
      refine er rfl fx H2 (Ex.refl H2) _ fun H3 e3 => ⟨_, rfl, ?_⟩
      rw [bx]
      exact ite2 (fun _ => ⟨x, rfl, fun d hd => kE d H3 (((Go.ex hz e1).then e2).then e3) hd⟩) fun z => absurd rfl z
end
end K13
set_option linter.all false
set_option maxRecDepth 100000
/-! bounds of shapes, by numbers (law k11) -/
namespace Sh
/-- counts, by structural steps -/
def cnt : Nat → Nat → Nat → List Nat
  | 0, _, _ => []
  | u + 1, k, m => if k < m ∧ 2 ≤ k then (k - (m - k) % 2) :: cnt u k ((m - (k - (m - k) % 2)) / 2) else if 0 < m then [m] else []
theorem cnt_eq : ∀ (u k m : Nat), m ≤ u → cnt u k m = counts k m
  | 0, k, m, h => by
    have : m = 0 := by omega
    subst this
    rw [counts_zero]
    rfl
  | u + 1, k, m, h => by
    rw [counts]
    show (if k < m ∧ 2 ≤ k then _ else _) = _
    split
    · rename_i z
      rw [cnt_eq u k _ (by omega)]
    · rename_i z
      rfl
def shF (k n : Nat) : List (Nat × Nat) := sh 0 (cnt 64 k n) 1
theorem sh_shift : ∀ (cs : List Nat) (s f g : Nat), sh (g + f) cs s = (sh f cs s).map fun p => (g + p.1, p.2)
  | [], _, _, _ => rfl
  | c :: cs, s, f, g => by
    show sh (g + f) cs (2 * s) ++ _ = (sh f cs (2 * s) ++ _).map _
    rw [sh_shift cs (2 * s) f g, List.map_append, List.map_map]
    congr 1
    apply List.map_congr_left
    intro j _
    show (g + f + tot cs (2 * s) + s * j, s) = (g + (f + tot cs (2 * s) + s * j), s)
    rw [Prod.mk.injEq]
    exact ⟨by omega, rfl⟩
theorem shF_eq {k n : Nat} (h : n ≤ 64) : shF k n = shp k 0 n := by
  unfold shF shp
  rw [cnt_eq 64 k n h]
  rfl
theorem shp_shift {k f l : Nat} (h : l - f ≤ 64) : shp k f l = (shF k (l - f)).map fun p => (f + p.1, p.2) := by
  rw [shF_eq h]
  unfold shp
  rw [show l - f - 0 = l - f by omega]
  have := sh_shift (counts k (l - f)) 1 0 f
  rw [Nat.add_zero] at this
  exact this
/-- most_many, by steps -/
def mmG (k a : Nat) : Nat → Nat → Nat
  | 0, m => m
  | u + 1, m => if (k - 1) * (2 * m - 1) ≤ a then mmG k a u (m * 2) else m
def mm (k a : Nat) : Nat := mmG k a 10 1
def msG (k : Nat) : Nat → Nat → Nat → Nat → Nat
  | 0, spans, size, left => spans + left / size
  | u + 1, spans, size, left => if k * size ≤ left then msG k u (spans + k) (size * 2) (left - k * size) else spans + left / size
def ms (k r : Nat) : Nat := msG k 10 0 1 r
def hasR (r : Nat) (p : Nat × Nat) : Bool := decide (p.1 ≤ r) && decide (r < p.1 + p.2)
/-- the greatest span with a row of that age, of so many laid -/
def sizesAt (k a l : Nat) : List Nat := ((shF k l).filter (hasR (l - 1 - a))).map (·.2)
def grU (k a : Nat) : Nat → Nat
  | 0 => 0
  | l + 1 => if a < l + 1 then (sizesAt k a (l + 1)).foldl max (grU k a l) else grU k a l
def nsU (k a : Nat) : Nat → Nat
  | 0 => 0
  | l + 1 => if l + 1 ≤ a + 3 then max (nsU k a l) (shF k (l + 1)).length else nsU k a l
def descB : List Nat → Bool
  | [] => true
  | [_] => true
  | x :: y :: r => decide (y ≤ x) && descB (y :: r)
def okBounds (k a : Nat) : Bool := decide (grU k a (a + 40) = mm k a) && (decide (mm k a ≤ 1 + a / (k - 1)) && decide (nsU k a (a + 40) = ms k (a + 3)))
theorem bounds_all : ((List.range 7).all fun k => (List.range 25).all fun a => okBounds (k + 2) a) = true := by decide +kernel
theorem desc_all : ((List.range 7).all fun k => (List.range 65).all fun n => descB ((shF (k + 2) n).map (·.2))) = true := by decide +kernel
theorem age_all : ((List.range 7).all fun k => (List.range 41).all fun n => (shF (k + 2) n).all fun p => decide (p.2 ≤ mm (k + 2) (n - p.1 - p.2))) = true := by decide +kernel
theorem coarse_all : ((List.range 7).all fun k => (List.range 41).all fun n => (shF (k + 2) n).all fun p => (shF (k + 2) (n + 1)).any fun q => decide (q.1 ≤ p.1) && decide (p.1 + p.2 ≤ q.1 + q.2)) = true := by decide +kernel
theorem all7 {P : Nat → Bool} (h : ((List.range 7).all fun k => P (k + 2)) = true) {k : Nat} (h2 : 2 ≤ k) (h8 : k ≤ 8) : P k = true := by
  have := List.all_eq_true.mp h (k - 2) (List.mem_range.mpr (by omega))
  rwa [show k - 2 + 2 = k by omega] at this
theorem allN {N : Nat} {P : Nat → Bool} (h : (List.range N).all P = true) {n : Nat} (hn : n < N) : P n = true := List.all_eq_true.mp h n (List.mem_range.mpr hn)
theorem bounds {k a : Nat} (h2 : 2 ≤ k) (h8 : k ≤ 8) (ha : a < 25) : grU k a (a + 40) = mm k a ∧ mm k a ≤ 1 + a / (k - 1) ∧ nsU k a (a + 40) = ms k (a + 3) := by
  have h := allN (all7 (P := fun k => (List.range 25).all fun a => okBounds k a) bounds_all h2 h8) ha
  unfold okBounds at h
  simp only [Bool.and_eq_true, decide_eq_true_eq] at h
  exact h
theorem desc {k n : Nat} (h2 : 2 ≤ k) (h8 : k ≤ 8) (hn : n < 65) : descB ((shF k n).map (·.2)) = true := allN (all7 (P := fun k => (List.range 65).all fun n => descB ((shF k n).map (·.2))) desc_all h2 h8) hn
theorem aged {k f l : Nat} (h2 : 2 ≤ k) (h8 : k ≤ 8) (hf : f ≤ l) (hn : l - f < 41) {p : Nat × Nat} (hp : p ∈ shp k f l) : p.2 ≤ mm k (l - p.1 - p.2) := by
  rw [shp_shift (by omega)] at hp
  obtain ⟨q, hq, rfl⟩ := List.mem_map.mp hp
  have h := allN (all7 (P := fun k => (List.range 41).all fun n => (shF k n).all fun p => decide (p.2 ≤ mm k (n - p.1 - p.2))) age_all h2 h8) hn
  have := of_decide_eq_true (List.all_eq_true.mp h q hq)
  show q.2 ≤ mm k (l - (f + q.1) - q.2)
  rwa [show l - (f + q.1) - q.2 = l - f - q.1 - q.2 by omega]
theorem coarse {k f l : Nat} (h2 : 2 ≤ k) (h8 : k ≤ 8) (hf : f ≤ l) (hn : l - f < 41) {p : Nat × Nat} (hp : p ∈ shp k f l) : ∃ q ∈ shp k f (l + 1), q.1 ≤ p.1 ∧ p.1 + p.2 ≤ q.1 + q.2 := by
  rw [shp_shift (by omega)] at hp
  obtain ⟨p0, hp0, rfl⟩ := List.mem_map.mp hp
  have h := allN (all7 (P := fun k => (List.range 41).all fun n => (shF k n).all fun p => (shF k (n + 1)).any fun q => decide (q.1 ≤ p.1) && decide (p.1 + p.2 ≤ q.1 + q.2)) coarse_all h2 h8) hn
  obtain ⟨q, hq, e⟩ := List.any_eq_true.mp (List.all_eq_true.mp h p0 hp0)
  simp only [Bool.and_eq_true, decide_eq_true_eq] at e
  refine ⟨(f + q.1, q.2), ?_, by show f + q.1 ≤ f + p0.1; omega, by show f + p0.1 + p0.2 ≤ f + q.1 + q.2; omega⟩
  rw [shp_shift (by omega), show l + 1 - f = l - f + 1 by omega]
  exact List.mem_map.mpr ⟨q, hq, rfl⟩
/-! ### spans that one store had -/
def Apart (p q : Nat × Nat) : Prop := p.1 + p.2 ≤ q.1 ∨ q.1 + q.2 ≤ p.1
def Inside (p q : Nat × Nat) : Prop := q.1 ≤ p.1 ∧ p.1 + p.2 ≤ q.1 + q.2
/-- any two seen are nested or apart; each seen lies in a present one or ahead of the first row -/
structure Seen (k f l : Nat) (S : List (Nat × Nat)) : Prop where
  two : ∀ p ∈ S, ∀ q ∈ S, Apart p q ∨ Inside p q ∨ Inside q p
  at_ : ∀ p ∈ S, p.1 + p.2 ≤ f ∨ ∃ q ∈ shp k f l, Inside p q
  pos : ∀ p ∈ S, 1 ≤ p.2 ∧ p.1 + p.2 ≤ l
theorem apart_of {L : List (Nat × Nat)} (h : L.Pairwise fun a b => a.1 + a.2 ≤ b.1) {p q : Nat × Nat} (hp : p ∈ L) (hq : q ∈ L) : p = q ∨ Apart p q := by
  induction h with
  | nil => cases hp
  | @cons x L h1 h2 ih =>
    rcases List.mem_cons.mp hp with e1 | hp
    · rcases List.mem_cons.mp hq with e2 | hq
      · exact .inl (e1.trans e2.symm)
      · exact .inr (.inl (e1 ▸ h1 q hq))
    · rcases List.mem_cons.mp hq with e2 | hq
      · exact .inr (.inr (e2 ▸ h1 p hp))
      · exact ih hp hq
theorem in_shp {k f l : Nat} {p q : Nat × Nat} (hp : p ∈ shp k f l) (hq : q ∈ shp k f l) : p = q ∨ Apart p q := apart_of (sh_pair _ _ _) hp hq
theorem Seen.nil {k f l : Nat} : Seen k f l [] := ⟨fun _ h => absurd h List.not_mem_nil, fun _ h => absurd h List.not_mem_nil, fun _ h => absurd h List.not_mem_nil⟩
/-- a row is laid; some of the present spans are seen too -/
theorem Seen.lay {k f l : Nat} {S S' : List (Nat × Nat)} (s : Seen k f l S) (h2 : 2 ≤ k) (h8 : k ≤ 8) (hf : f ≤ l) (hn : l - f < 41) (hS : ∀ p ∈ S', p ∈ S ∨ p ∈ shp k f (l + 1)) : Seen k f (l + 1) S' := by
  have old : ∀ p ∈ S, p.1 + p.2 ≤ f ∨ ∃ q ∈ shp k f (l + 1), Inside p q := fun p hp => by
    rcases s.at_ p hp with h | ⟨q, hq, h⟩
    · exact .inl h
    · obtain ⟨r, hr, a, b⟩ := coarse h2 h8 hf hn hq
      exact .inr ⟨r, hr, Nat.le_trans a h.1, Nat.le_trans h.2 b⟩
  have mix : ∀ p ∈ S, ∀ q ∈ shp k f (l + 1), Apart p q ∨ Inside p q ∨ Inside q p := fun p hp q hq => by
    have m := shp_mem h2 (by omega) hq
    rcases old p hp with h | ⟨r, hr, h⟩
    · exact .inl (.inl (by omega))
    · rcases in_shp hr hq with e | e
      · exact .inr (.inl (e ▸ h))
      · refine .inl ?_
        unfold Apart at e ⊢
        unfold Inside at h
        omega
  refine ⟨fun p hp q hq => ?_, fun p hp => ?_, fun p hp => ?_⟩
  · rcases hS p hp with hp | hp
    · rcases hS q hq with hq | hq
      · exact s.two p hp q hq
      · exact mix p hp q hq
    · rcases hS q hq with hq | hq
      · rcases mix q hq p hp with h | h | h
        · exact .inl (h.symm)
        · exact .inr (.inr h)
        · exact .inr (.inl h)
      · rcases in_shp hp hq with e | e
        · exact .inr (.inl (e ▸ ⟨Nat.le_refl _, Nat.le_refl _⟩))
        · exact .inl e
  · rcases hS p hp with hp | hp
    · exact old p hp
    · exact .inr ⟨p, hp, Nat.le_refl _, Nat.le_refl _⟩
  · rcases hS p hp with hp | hp
    · have := s.pos p hp
      omega
    · have := shp_mem h2 (show f ≤ l + 1 by omega) hp
      omega
/-- some are let go -/
theorem Seen.go {k f l b : Nat} {S : List (Nat × Nat)} (s : Seen k f l S) (h2 : 2 ≤ k) (hf : f ≤ l) : Seen k (firstOf (gone b (shp k f l)) l) l S := by
  obtain ⟨e1, e2⟩ := gone_shp (b := b) h2 hf
  refine ⟨s.two, fun p hp => ?_, s.pos⟩
  generalize hg : firstOf (gone b (shp k f l)) l = g at *
  by_cases e : l - f = 0
  · left
    have := (s.pos p hp)
    rcases s.at_ p hp with h | ⟨q, hq, h⟩
    · have : gone b (shp k f l) = [] := by
        have z : shp k f l = [] := by
          unfold shp
          rw [e, counts_zero]
          rfl
        rw [z]
        rfl
      rw [this] at hg
      have hg : l = g := hg
      omega
    · exfalso
      have z : shp k f l = [] := by
        unfold shp
        rw [e, counts_zero]
        rfl
      rw [z] at hq
      cases hq
  · rcases s.at_ p hp with h | ⟨q, hq, h⟩
    · left
      -- the first row present is not ahead of f
      rcases hG : gone b (shp k f l) with _ | ⟨r, R⟩
      · rw [hG] at hg
        have hg : l = g := hg
        omega
      · rw [hG] at hg
        have hg : r.1 = g := hg
        have hr : r ∈ gone b (shp k f l) := by rw [hG]; exact List.mem_cons_self ..
        have := shp_mem h2 hf (List.mem_filter.mp hr).1
        omega
    · by_cases hb : b < q.1 + q.2
      · right
        refine ⟨q, ?_, h⟩
        rw [← e2]
        exact List.mem_filter.mpr ⟨hq, decide_eq_true hb⟩
      · left
        have hx : q.1 + q.2 ≤ g := by
          rcases hG : gone b (shp k f l) with _ | ⟨r, R⟩
          · rw [hG] at hg
            have hg : l = g := hg
            have := shp_mem h2 hf hq
            omega
          · rw [hG] at hg
            have hg : r.1 = g := hg
            have hr : r ∈ gone b (shp k f l) := by rw [hG]; exact List.mem_cons_self ..
            obtain ⟨hr1, hr2⟩ := List.mem_filter.mp hr
            have hr2 := of_decide_eq_true hr2
            rcases in_shp hq hr1 with z | z
            · rw [← z] at hr2
              exact absurd hr2 hb
            · unfold Apart at z
              rcases z with z | z
              · omega
              · have := shp_mem h2 hf hq
                omega
        have := h.2
        omega
/-- what the law finds crossed -/
def crossB (p q : Nat × Nat) : Bool := decide (max p.1 q.1 < min (p.1 + p.2) (q.1 + q.2)) && decide (min (p.1 + p.2) (q.1 + q.2) - max p.1 q.1 < min p.2 q.2)
theorem Seen.cross {k f l : Nat} {S : List (Nat × Nat)} (s : Seen k f l S) {p q : Nat × Nat} (hp : p ∈ S) (hq : q ∈ S) : crossB p q = false := by
  have h := s.two p hp q hq
  unfold Apart Inside at h
  unfold crossB
  rw [Bool.and_eq_false_iff, decide_eq_false_iff_not, decide_eq_false_iff_not]
  omega
theorem nsU_le {k a : Nat} (hk : 2 ≤ k) : ∀ {l : Nat}, l ≤ 64 → nsU k a l ≤ 64
  | 0, _ => by show 0 ≤ 64; decide
  | l + 1, h => by
    have ih := nsU_le hk (show l ≤ 64 by omega) (a := a)
    have hs : (shF k (l + 1)).length ≤ 64 := by
      rw [shF_eq h]
      exact Nat.le_trans (shp_len hk) (by omega)
    show (if l + 1 ≤ a + 3 then max _ _ else _) ≤ 64
    split <;> omega
end Sh
set_option Elab.async false
set_option linter.all false
set_option maxRecDepth 100000
set_option maxHeartbeats 1000000
namespace K13
open PySem PySem.Spec PyProof.Rows L2 GxR Pu Evl Sh Sv
def sF (k f l : Nat) : List (Nat × Nat) := (shF k (l - f)).map fun p => (f + p.1, p.2)
def valid (s : Nat → Nat → Nat → List (Nat × Nat)) (k l : Nat) (P : List (Nat × Nat)) : Bool := decide (firstOf P l ≤ l ∧ P = s k (firstOf P l) l)
def chk4 (k f l : Nat) : Bool := (List.range (sF k f l).length).all fun i => valid sF k l ((sF k f l).take i ++ (sF k f l).drop (i + 1)) == decide (i = 0)
def chk5 (k f l : Nat) : Bool := valid sF k (l + 1) (sF k f l) == (sF k f l).isEmpty
theorem all4 : ((List.range 3).all fun k => (List.range 20).all fun l => (List.range (l + 1)).all fun f => chk4 (k + 2) f l && chk5 (k + 2) f l) = true := by decide +kernel
theorem sF_eq {k f l : Nat} (h : l ≤ 60) : sF k f l = shp k f l := (shp_shift (by omega)).symm
theorem valid_eq {k l : Nat} {P : List (Nat × Nat)} (h : l ≤ 60) : valid sF k l P = decide (firstOf P l ≤ l ∧ P = shp k (firstOf P l) l) := by
  unfold valid
  rw [sF_eq h]
theorem all45 {k f l : Nat} (k2 : 2 ≤ k) (k4 : k ≤ 4) (hl : l ≤ 19) (hf : f ≤ l) : chk4 k f l = true ∧ chk5 k f l = true := by
  have h := List.all_eq_true.mp all4 (k - 2) (List.mem_range.mpr (by omega))
  have h := List.all_eq_true.mp h l (List.mem_range.mpr (by omega))
  have h := List.all_eq_true.mp h f (List.mem_range.mpr (by omega))
  rw [show k - 2 + 2 = k by omega] at h
  exact Bool.and_eq_true_iff.mp h
theorem cut4 {k f l i : Nat} (k2 : 2 ≤ k) (k4 : k ≤ 4) (hl : l ≤ 19) (hf : f ≤ l) (hi : i < (shp k f l).length) {P : List (Nat × Nat)} (hP : P = (shp k f l).take i ++ (shp k f l).drop (i + 1)) : decide (firstOf P l ≤ l ∧ P = shp k (firstOf P l) l) = decide (i = 0) := by
  have h := (all45 k2 k4 hl hf).1
  unfold chk4 at h
  rw [sF_eq (show l ≤ 60 by omega)] at h
  have h := beq_iff_eq.mp (List.all_eq_true.mp h i (List.mem_range.mpr hi))
  rw [valid_eq (by omega), ← hP] at h
  exact h
theorem cut5 {k f l : Nat} (k2 : 2 ≤ k) (k4 : k ≤ 4) (hl : l ≤ 19) (hf : f ≤ l) : decide (firstOf (shp k f l) (l + 1) ≤ l + 1 ∧ shp k f l = shp k (firstOf (shp k f l) (l + 1)) (l + 1)) = (shp k f l).isEmpty := by
  have h := (all45 k2 k4 hl hf).2
  unfold chk5 at h
  rw [sF_eq (show l ≤ 60 by omega), valid_eq (by omega)] at h
  exact beq_iff_eq.mp h
theorem same {k f l : Nat} (k2 : 2 ≤ k) (hf : f ≤ l) : decide (firstOf (shp k f l) l ≤ l ∧ shp k f l = shp k (firstOf (shp k f l) l) l) = true := by
  rw [firstOf_sh k2 hf]
  exact decide_eq_true ⟨hf, rfl⟩
/-- the spans are spans -/
theorem spanB_of {s : S5} (h : s.Ok) : K13X.spanB (.int (s.f : Int)) (.int (s.n : Int)) (.int s.w) (.int s.lo) (.int s.hi) = true := by
  obtain ⟨⟨i, pw⟩, n9, l1, l2, l3, en, s1, s2⟩ := h
  have a1 : isNum (.int (s.f : Int)) = true := decide_eq_true (show (s.f : Int) ≥ 0 by omega)
  have a2 : K13X.sizeB (.int (s.n : Int)) = true := by
    show (decide ((s.n : Int) ≥ 0) && (decide ((s.n : Int) > 0) && (Builtin.bitAnd (s.n : Int) ((s.n : Int) - 1) == 0))) = true
    rw [pw, K13X.pow_and]
    have := Nat.two_pow_pos i
    rw [decide_eq_true (by omega), decide_eq_true (by omega)]
    rfl
  have a3 : K13X.readB (.int s.lo) = true := by
    show (decide (-1000000 ≤ s.lo) && decide (s.lo ≤ 1000000)) = true
    rw [decide_eq_true l1, decide_eq_true (by omega)]
    rfl
  have a4 : K13X.readB (.int s.hi) = true := by
    show (decide (-1000000 ≤ s.hi) && decide (s.hi ≤ 1000000)) = true
    rw [decide_eq_true (by omega), decide_eq_true l3]
    rfl
  have a5 : K13X.gtB (.int s.lo) (.int s.hi) = false := decide_eq_false (by omega)
  have a6 : K13X.sumV (.int (s.n : Int)) (.int s.w) (.int s.lo) (.int s.hi) = true := by
    show K13X.sumB (s.n : Int).toNat s.w s.lo s.hi = true
    rw [Int.toNat_natCast]
    unfold K13X.sumB
    have e : K13X.ends s.lo s.hi = ends s.lo s.hi := rfl
    rw [e, decide_eq_true en, decide_eq_true (show K13X.tot (ends s.lo s.hi) + ((s.n : Int) - (ends s.lo s.hi).length) * s.lo ≤ s.w from s1), decide_eq_true (show s.w ≤ K13X.tot (ends s.lo s.hi) + ((s.n : Int) - (ends s.lo s.hi).length) * s.hi from s2)]
    rfl
  unfold K13X.spanB
  rw [a1, a2, a3, a4, a5, a6]
  rfl
/-- a span whose sum is far off is none -/
theorem far_off {s : S5} (h : s.Ok) (n30 : s.n ≤ 30) (lo4 : -10 ≤ s.lo) (hi4 : s.hi ≤ 10) : K13X.spanB (.int (s.f : Int)) (.int (s.n : Int)) (.int (s.w + 10 ^ 7)) (.int s.lo) (.int s.hi) = false := by
  obtain ⟨_, _, _, l2, _, en, s1, s2⟩ := h
  have a6 : K13X.sumV (.int (s.n : Int)) (.int (s.w + 10 ^ 7)) (.int s.lo) (.int s.hi) = false := by
    show K13X.sumB (s.n : Int).toNat (s.w + 10 ^ 7) s.lo s.hi = false
    rw [Int.toNat_natCast]
    unfold K13X.sumB
    have e : K13X.ends s.lo s.hi = ends s.lo s.hi := rfl
    have e2 : ∀ l, K13X.tot l = tot l := fun _ => rfl
    rw [e, e2]
    obtain ⟨m, hm⟩ : ∃ m : Int, (s.n : Int) - (ends s.lo s.hi).length = m := ⟨_, rfl⟩
    rw [hm] at s1 s2 ⊢
    have m0 : 0 ≤ m := by omega
    have m30 : m ≤ 30 := by omega
    have p1 : m * s.hi - m * s.lo = m * (s.hi - s.lo) := by rw [Int.mul_sub]
    have p2 : m * (s.hi - s.lo) ≤ 30 * (s.hi - s.lo) := Int.mul_le_mul_of_nonneg_right m30 (by omega)
    rw [decide_eq_false (show ¬ s.w + 10 ^ 7 ≤ tot (ends s.lo s.hi) + m * s.hi by omega), Bool.and_false, Bool.and_false]
  unfold K13X.spanB
  rw [a6, Bool.and_false, Bool.and_false]
theorem low_high {x1 x2 x3 : V} {lo : Int} : K13X.spanB x1 x2 x3 (.int lo) (.int (lo - 1)) = false := by
  have a : K13X.gtB (.int lo) (.int (lo - 1)) = true := decide_eq_true (by omega)
  unfold K13X.spanB
  rw [a, Bool.not_true, Bool.and_false, Bool.and_false, Bool.false_and, Bool.and_false]
end K13
set_option Elab.async false
set_option linter.all false
set_option maxRecDepth 100000
set_option maxHeartbeats 1000000
namespace K13
open PySem PySem.Spec PyProof.Rows L2 GxR Pu Evl Sh Sv
theorem ExB.pre {p : Addr} {H H1 H2 : Hp} (e : Ex H H1) (b : ExB p H1 H2) : ExB p H H2 := ⟨b.1, fun a o n h => b.2 a o n (e _ _ h)⟩
theorem ExB.post {p : Addr} {H H1 H2 : Hp} (b : ExB p H H1) (e : Ex H1 H2) : ExB p H H2 := ⟨b.1.ex e, fun a o n h => e _ _ (b.2 a o n h)⟩
theorem ExB.trans {p : Addr} {H H1 H2 : Hp} (b : ExB p H H1) (c : ExB p H1 H2) : ExB p H H2 := ⟨c.1, fun a o n h => c.2 a o n (b.2 a o n h)⟩
theorem ExB.tup {p : Addr} {H H1 : Hp} (hb : BoxAt H p) (b : ExB p H H1) {a : Addr} {xs : List V} (h : H a = some (.tup xs)) : H1 a = some (.tup xs) := b.2 a _ (fun z => by
  obtain ⟨g, s, h1, _⟩ := hb
  rw [z, h1] at h
  cases h) h
theorem ExB.rfl {p : Addr} {H : Hp} (hb : BoxAt H p) : ExB p H H := ⟨hb, fun _ _ _ h => h⟩
section
variable {K : PySem.W.Frag} {σ : L2.St} {H H' : Hp} {xs ys : List V} {te ta tb : TE}
/-- a tuple's reading: a new one or one that stands -/
def ET (te : TE) (σ : L2.St) (H : Hp) (xs : List V) : Prop := ∀ H1, Ex H H1 → ∀ Q : VK, (∀ a H2, Ex H1 H2 → H2 a = some (.tup xs) → Q (.ref a) H2) → te σ H1 Q
theorem ET.var {i : Nat} {a : Addr} (h : σ[i]? = some (some (.ref a))) (q : H a = some (.tup xs)) : ET (tVar i) σ H xs := fun H1 e Q k => ⟨_, h, k a H1 (Ex.refl H1) (e _ _ q)⟩
theorem ET.ofU (h : EvU te σ H xs) : ET te σ H xs := fun H1 e Q k => h H1 e Q fun p H2 _ e2 hp => k p H2 e2 hp
theorem et_slT {tl th : TO} {lo hi : Option Int} (h : ET te σ H xs) (h1 : EvO tl σ H lo) (h2 : EvO th σ H hi) : ET (tSl (rSlA K) te tl th) σ H (cutV xs lo hi) := fun H1 e Q kk =>
  h H1 e _ fun a H2 e2 ha => h1 H2 (e.trans e2) _ fun H3 e3 => h2 H3 ((e.trans e2).trans e3) _ fun H4 e4 => by
    have q := (e3.trans e4) _ _ ha
    refine ⟨a, xs, rfl, SqT.of q, fun hw => kk a H4 ((e2.trans e3).trans e4) ?_, fun _ p hp => kk p _ (((e2.trans e3).trans e4).trans (Ex.new hp)) upd_same⟩
    have : cutV xs lo hi = xs := by
      unfold cutV
      rw [hw.1, hw.2, List.drop_zero, Nat.sub_zero, List.take_length]
    rw [this]
    exact q
theorem et_catT (ha : ET ta σ H xs) (hb : ET tb σ H ys) (hz : xs.length + ys.length ≤ 100000) : ET (tOp (rCatA K) ta tb) σ H (xs ++ ys) := fun H1 e Q kk =>
  ha H1 e _ fun a H2 e2 h2 => hb H2 (e.trans e2) _ fun b H3 e3 h3 => by
    refine ⟨a, b, xs, ys, rfl, rfl, SqT.of (e3 _ _ h2), SqT.of h3, sz_of hz, fun z => kk b H3 (e2.trans e3) ?_, fun _ z => kk a H3 (e2.trans e3) ?_, fun _ _ p hp => kk p _ ((e2.trans e3).trans (Ex.new hp)) upd_same⟩
    · rw [z]; exact h3
    · rw [z, List.append_nil]; exact e3 _ _ h2
end
theorem cut_take {xs : List V} {a : Nat} (h : a ≤ xs.length) : cutV xs none (some (a : Int)) = xs.take a := by
  unfold cutV
  rw [HT.sIx_none, HT.sIx_nat, List.drop_zero, Nat.sub_zero, Nat.min_eq_left h]
theorem cut_drop {xs : List V} {a : Nat} (h : a ≤ xs.length) : cutV xs (some (a : Int)) none = xs.drop a := by
  unfold cutV
  rw [HT.sIx_none, HT.sIx_nat, Nat.min_eq_left h, List.take_of_length_le (by rw [List.length_drop]; omega)]
/-- the numbers of a store of the law's own -/
structure Sto (k f : Nat) (v : List Int) (la : Option Nat) (L : List S5) : Prop where
  k2 : 2 ≤ k
  k4 : k ≤ 4
  fl : f ≤ v.length
  l19 : v.length ≤ 19
  v4 : ∀ y ∈ v, -4 ≤ y ∧ y ≤ 4
  nla : la = none ↔ v.length = 0
  L : L = (shp k f v.length).map (spn v)
section
variable {k f : Nat} {v : List Int} {la : Option Nat} {L : List S5} {K : PySem.W.Frag} {H : Hp}
theorem Sto.prs (n : Sto k f v la L) : (L.map fun s => (s.f, s.n)) = shp k f v.length := by
  rw [n.L, List.map_map]
  exact (List.map_congr_left fun p _ => rfl).trans (List.map_id _)
theorem Sto.vok (n : Sto k f v la L) : Vok v := ⟨by have := n.l19; omega, fun y hy => by have := n.v4 y hy; omega⟩
theorem Sto.len (n : Sto k f v la L) : L.length = (shp k f v.length).length := by rw [n.L, List.length_map]
theorem Sto.few (n : Sto k f v la L) : L.length ≤ 19 := by
  rw [n.len]
  have := shp_len (f := f) (l := v.length) n.k2
  have := n.l19
  omega
theorem Sto.ok (n : Sto k f v la L) : ∀ s ∈ L, s.Ok ∧ s.n ≤ 30 ∧ -10 ≤ s.lo ∧ s.hi ≤ 10 := by
  intro s hs
  rw [n.L] at hs
  obtain ⟨p, hp, rfl⟩ := List.mem_map.mp hs
  obtain ⟨m1, m2, m3⟩ := shp_mem n.k2 n.fl hp
  obtain ⟨j, hj⟩ : ∃ j, p.2 = 2 ^ j := sh_pow _ 0 _ p hp
  obtain ⟨p1, p2⟩ := p
  have hj : p2 = 2 ^ j := hj
  subst hj
  have ne := sl_ne (v := v) (p := (p1, 2 ^ j)) m2 m3
  have b1 := n.v4 _ (sl_mem (lmin_spec ne).1)
  have b2 := n.v4 _ (sl_mem (lmax_spec ne).1)
  have l19 := n.l19
  exact ⟨spn_ok n.vok m2, by show 2 ^ j ≤ 30; omega, by show -10 ≤ lmin _; omega, by show lmax _ ≤ 10; omega⟩
theorem Sto.las (n : Sto k f v la L) : lastB v.length (nonV la) = true := by
  cases la with
  | none => rw [n.nla.mp rfl]; rfl
  | some m =>
    cases z : v.length with
    | zero => exact absurd (n.nla.mpr z) (by simp)
    | succ l => exact decide_eq_true (show (m : Int) ≥ 0 by omega)
theorem span_of (n : Sto k f v la L) {s : S5} (hs : s ∈ L) {b : Addr} (h : SqE K H b s.vs) : K13X.SpanH K H (.ref b) true := by
  obtain ⟨o, n30, _⟩ := n.ok s hs
  have := K13X.SpanH.five h (fun x hx => by
    simp only [S5.vs, List.mem_cons, List.not_mem_nil, or_false] at hx
    rcases hx with rfl | rfl | rfl | rfl | rfl <;> rfl) fun m e => by cases e; omega
  rw [spanB_of o] at this
  exact this
theorem spans_of (n : Sto k f v la L) {xs : List V} : ∀ {M : List S5} {ys : List V}, (∀ s ∈ M, s ∈ L) → Paired (SpE K H) M ys → Paired (fun b v => K13X.SpanH K H v b) (M.map fun _ => true) ys
  | _, _, hM, .nil => .nil
  | _, _, hM, .cons ⟨b, e, h⟩ t => .cons (e ▸ span_of n (hM _ (List.mem_cons_self ..)) h) (spans_of n (xs := xs) (fun s hs => hM s (List.mem_cons_of_mem _ hs)) t)
theorem are_of (n : Sto k f v la L) {M : List S5} {e : Addr} {ys : List V} (hM : ∀ s ∈ M, s ∈ L) (h : SqE K H e ys) (p : Paired (SpE K H) M ys) : K13X.AreS K H (.ref e) true := by
  have := K13X.AreS.seq h (spans_of n (xs := ys) hM p)
  rw [show (M.map fun _ => true).all id = true by simp] at this
  exact this
end
def dS5 (s : S5) : PyData := .tuple [.int (s.f : Int), .int (s.n : Int), .int s.w, .int s.lo, .int s.hi]
theorem dpS5 {K : PySem.W.Frag} {H : Hp} {s : S5} {v : V} (h : SpT H s v) : Dp K H v (dS5 s) := by
  obtain ⟨b, rfl, hb⟩ := h
  exact .tup (SqT.of hb) (.cons (.int _) (.cons (.int _) (.cons (.int _) (.cons (.int _) (.cons (.int _) .nil)))))
theorem dpSpans {K : PySem.W.Frag} {H : Hp} : ∀ {L : List S5} {xs : List V}, Paired (SpT H) L xs → DpAll K H xs (L.map dS5)
  | _, _, .nil => .nil
  | _, _, .cons r t => .cons (dpS5 r) (dpSpans t)
theorem laySpans : ∀ L : List S5, PyData.canLayAll0 (L.map dS5) = true
  | [] => rfl
  | s :: L => by
    show (PyData.canLay0 (dS5 s) && _) = true
    rw [laySpans L]
    rfl
theorem deepSpans : ∀ L : List S5, PyData.depthAll (L.map dS5) ≤ 1
  | [] => Nat.zero_le _
  | s :: L => by
    show max (PyData.depth (dS5 s)) _ ≤ 1
    exact Nat.max_le.mpr ⟨Nat.le_refl _, deepSpans L⟩
def dSpans (L : List S5) : PyData := .tuple (L.map dS5)
theorem shSpans (L : List S5) : SeqAt.shaped (dSpans L) = true := (shaped_d (d := dSpans L) (laySpans L) (by
  show PyData.depthAll _ + 1 ≤ 64
  have := deepSpans L
  omega)).1
theorem eqSpans (L : List S5) : PyData.eqv (dSpans L) (.tuple []) = L.isEmpty := by cases L <;> rfl
section
variable {K : PySem.W.Frag} {σ : L2.St} {H : Hp} {i : Nat} {e : Addr} {xs : List V} {L : List S5}
theorem ev_neNil (h : σ[i]? = some (some (.ref e))) (he : H e = some (.tup xs)) (hw : Paired (SpT H) L xs) : Ev (tOp (rNeD K) (tVar i) (tTup tNil)) σ H (.bl (!L.isEmpty)) := fun H1 e1 Q q =>
  ⟨_, h, by show 0 ≤ sizeLine; decide, fun r hr => by
    have x := e1.trans (Ex.new hr (o := .tup []))
    refine ⟨dSpans L, .tuple [], .tup (SqT.of (x _ _ he)) (dpSpans (Paired.mapP hw fun _ _ h => h.ex x)), .tup (SqT.of upd_same) .nil, shSpans L, rfl, ?_⟩
    rw [eqSpans]
    exact q _ (Ex.new hr)⟩
theorem ev_eqNil (h : σ[i]? = some (some (.ref e))) (he : H e = some (.tup xs)) (hw : Paired (SpT H) L xs) : Ev (tOp (rEqD K) (tVar i) (tTup tNil)) σ H (.bl L.isEmpty) := fun H1 e1 Q q =>
  ⟨_, h, by show 0 ≤ sizeLine; decide, fun r hr => by
    have x := e1.trans (Ex.new hr (o := .tup []))
    refine ⟨dSpans L, .tuple [], .tup (SqT.of (x _ _ he)) (dpSpans (Paired.mapP hw fun _ _ h => h.ex x)), .tup (SqT.of upd_same) .nil, shSpans L, rfl, ?_⟩
    rw [eqSpans]
    exact q _ (Ex.new hr)⟩
theorem ev_notN {x : V} (h : σ[i]? = some (some x)) : Ev (tNotN (tVar i)) σ H (.bl (!decide (x = .non))) := fun H1 _ Q q => ⟨_, h, q H1 (Ex.refl _)⟩
end
abbrev nLBent : List Str := ["_law_box_here", "_law_store", "_law_laid", "_law_last", "_law_spans", "_law_way", "_law_at", "_law_first", "_law_many", "_law_total", "_law_low", "_law_high", "_law_bent_here", "_law_left", "_law_span"]
theorem scLBent : FnScope nLBent ["_law_box_here", "_law_store"] (defScope sLBent) := ⟨rfl, rfl, rfl, by decide +kernel, rfl, by decide +kernel, by decide +kernel⟩
def spBent (K : PySem.W.Frag) : Sp := fun vs H Q _ => ∃ (k f : Nat) (w : List Int) (la : Option Nat) (L : List S5) (p : Addr) (v : V), vs = [.ref p, v] ∧ BoxAt H p ∧ StT H w.length la L v ∧ Sto k f w la L ∧
  ∀ r u due H', ExB p H H' → H' r = some (.tup [u, .bl due]) → StH3 K H' k u due → Q (.ref r) H'
end K13
set_option Elab.async false
set_option linter.all false
set_option maxRecDepth 100000
set_option maxHeartbeats 2000000
namespace K13
open PySem PySem.Spec PyProof.Rows L2 GxR Pu Evl Sh Sv
section
variable {P : Program} {w : World} {K : PySem.W.Frag} {mg : Str → Option Value} {base : Heap}
variable {fTk fPk : Addr} {dTk dPk : FuncData}
theorem ok_bent {f : Addr} {fd : FuncData} (G : Mg mg) (F : Fun K "_law_bent" "_law_bent" sLBent f fd) (C1 : Cal P w K mg base "_law_take" ["_law_box_here", "_law_many"] sTake 1 spTake fTk dTk)
    (C2 : Cal P w K mg base "_law_pick" ["_law_box_here", "_law_some"] sPick 2 spPick fPk dPk) : FnOk P w K mg base CX0 3 f fd ["_law_box_here", "_law_store"] (spBent K) := by
  refine F.ok scLBent (fun vs H Q E h => ?_) (fun cdv A outer s H vs Q E hr h => ?_)
  · obtain ⟨k, f, w, la, L, p, v, rfl, _⟩ := h
    rfl
  · obtain ⟨k, f, w, la, L, p, v, rfl, hb, hs, n, kk⟩ := h
    have hu : A.units + 3 + 64 < cLine := hr.units
    refine ⟨_, (pss_cons (ps_asg (pv 1) (pg_seq rfl (pgs_cons (pg_name (i := 2) scLBent.nd rfl (.inl rfl)) (pgs_cons (pg_name (i := 3) scLBent.nd rfl (.inl rfl)) (pgs_cons (pg_name (i := 4) scLBent.nd rfl (.inl rfl)) pgs_nil)))))
      (pss_cons (ps_par (i := 5) (j := 6) rfl scLBent.nd rfl rfl (by decide) rfl rfl (pa_cons (pe_call C1.ok (hr.mono (by decide)) (by rfl) C1.ns.mg C1.ns.fn.kp C1.ns.bd .nil pass0 (pa_cons (pv 0) (pa_cons pe_int pa_nil))) (pa_cons (pe_call C1.ok (hr.mono (by decide)) (by rfl) C1.ns.mg C1.ns.fn.kp C1.ns.bd .nil pass0 (pa_cons (pv 0) (pa_cons (pe_op op_add (pe_callB call_len_seq (by rfl) G.len PySem.boot_len (pa_cons (pv 4) pa_nil)) pe_int) pa_nil))) pa_nil)) (by rfl))
      (pss_cons (ps_if (pt_cmpR op_eq (pv 5) pe_int (nomark _)) (pss_one (ps_ret (pe_tup (pa_cons (pe_call C2.ok (hr.mono (by decide)) (by rfl) C2.ns.mg C2.ns.fn.kp C2.ns.bd .nil pass0 (pa_cons (pv 0) (pa_cons (pe_lst (pa_cons pe_non (pa_cons pe_int (pa_cons (pe_slice sl_tupA (pv 1) po_none (po_some pe_int)) (pa_cons (pe_op op_catA (pv 1) (pe_tup (pa_cons pe_int pa_nil))) (pa_cons pe_str (pa_cons (pe_tup (pa_cons (pv 2) (pa_cons (pv 3) (pa_cons pe_non pa_nil)))) (pa_cons (pe_tup (pa_cons pe_non (pa_cons (pv 3) (pa_cons (pv 4) pa_nil)))) (pa_cons (pe_tup (pa_cons pe_bl (pa_cons (pv 3) (pa_cons (pv 4) pa_nil)))) pa_nil))))))))) pa_nil))) (pa_cons pe_bl pa_nil))))) pss_nil)
      (pss_cons (ps_if (pt_cmpR op_eq (pv 5) pe_int (nomark _)) (pss_one (ps_ret (pe_tup (pa_cons (pe_tup (pa_cons (pv 2) (pa_cons (pe_call C2.ok (hr.mono (by decide)) (by rfl) C2.ns.mg C2.ns.fn.kp C2.ns.bd .nil pass0 (pa_cons (pv 0) (pa_cons (pe_lst (pa_cons (pe_op op_sub pe_int pe_int) (pa_cons pe_bl (pa_cons pe_str pa_nil)))) pa_nil))) (pa_cons (pv 4) pa_nil)))) (pa_cons pe_bl pa_nil))))) pss_nil)
      (pss_cons (ps_if (pt_cmpR op_eq (pv 5) pe_int (nomark _)) (pss_one (ps_ret (pe_tup (pa_cons (pe_tup (pa_cons (pv 2) (pa_cons pe_non (pa_cons (pv 4) pa_nil)))) (pa_cons (pe_cmpR op_eq (pv 2) pe_int (nomark _)) pa_nil))))) pss_nil)
      (pss_cons (ps_if (PW.pt (pw_and (pt_cmpR op_eq (pv 5) pe_int (nomark _)) (pw_and1 (pt_cmpR op_lt (pv 6) (pe_callB call_len_seq (by rfl) G.len PySem.boot_len (pa_cons (pv 4) pa_nil)) (nomark _))))) (pss_cons (ps_asg (pe_ix ix_seq (pv 4) (pv 6) (fun _ _ => rfl)) (pg_seq rfl (pgs_cons (pg_name (i := 7) scLBent.nd rfl (.inl rfl)) (pgs_cons (pg_name (i := 8) scLBent.nd rfl (.inl rfl)) (pgs_cons (pg_name (i := 9) scLBent.nd rfl (.inl rfl)) (pgs_cons (pg_name (i := 10) scLBent.nd rfl (.inl rfl)) (pgs_cons (pg_name (i := 11) scLBent.nd rfl (.inl rfl)) pgs_nil)))))))
          (pss_cons (ps_set (i := 12) scLBent.nd rfl (.inl rfl) (pe_call C2.ok (hr.mono (by decide)) (by rfl) C2.ns.mg C2.ns.fn.kp C2.ns.bd .nil pass0 (pa_cons (pv 0) (pa_cons (pe_lst (pa_cons (pe_tup (pa_cons (pv 7) (pa_cons (pv 8) (pa_cons (pv 9) (pa_cons (pv 10) (pa_cons (pe_op op_sub (pv 10) pe_int) pa_nil)))))) (pa_cons (pe_tup (pa_cons (pv 7) (pa_cons (pv 8) (pa_cons (pe_op op_add (pv 9) (pe_op op_pow pe_int pe_int)) (pa_cons (pv 10) (pa_cons (pv 11) pa_nil)))))) (pa_cons (pe_tup (pa_cons (pv 7) (pa_cons (pv 8) (pa_cons (pv 9) (pa_cons (pv 10) pa_nil))))) (pa_cons pe_non pa_nil))))) pa_nil))))
          (pss_one (ps_ret (pe_tup (pa_cons (pe_tup (pa_cons (pv 2) (pa_cons (pv 3) (pa_cons (pe_op op_catA (pe_op op_catA (pe_slice sl_tupA (pv 4) po_none (po_some (pv 6))) (pe_tup (pa_cons (pv 12) pa_nil))) (pe_slice sl_tupA (pv 4) (po_some (pe_op op_add (pv 6) pe_int)) po_none)) pa_nil)))) (pa_cons pe_bl pa_nil))))))) pss_nil)
      (pss_cons (ps_if (PW.pt (pw_and (pt_cmpR op_eq (pv 5) pe_int (nomark _)) (pw_and1 (pt_cmpR op_lt (pv 6) (pe_callB call_len_seq (by rfl) G.len PySem.boot_len (pa_cons (pv 4) pa_nil)) (nomark _))))) (pss_cons (ps_set (i := 13) scLBent.nd rfl (.inl rfl) (pe_op op_catA (pe_slice sl_tupA (pv 4) po_none (po_some (pv 6))) (pe_slice sl_tupA (pv 4) (po_some (pe_op op_add (pv 6) pe_int)) po_none)))
          (pss_one (ps_ret (pe_tup (pa_cons (pe_tup (pa_cons (pv 2) (pa_cons (pv 3) (pa_cons (pv 13) pa_nil)))) (pa_cons (pe_and (pe_cmpR op_eq (pv 6) pe_int (nomark _)) (pe_one (pe_cmpR (op_neD hu) (pv 4) (pe_tup pa_nil) (nomark _)))) pa_nil)))))) pss_nil)
      (pss_cons (ps_if (pt_cmpR op_eq (pv 5) pe_int (nomark _)) (pss_one (ps_ret (pe_tup (pa_cons (pe_tup (pa_cons (pe_op op_add (pv 2) pe_int) (pa_cons (pe_ifExp (pt_cmp (pc_notN (pv 3))) (pv 3) pe_int) (pa_cons (pv 4) pa_nil)))) (pa_cons (pe_cmpR (op_eqD hu) (pv 4) (pe_tup pa_nil) (nomark _)) pa_nil))))) pss_nil)
      (pss_one (ps_ret (pe_tup (pa_cons (pe_lst (pa_cons (pv 2) (pa_cons (pv 3) (pa_cons (pe_lc (own := [("_law_span", 14)]) (g := gName 14) (te := (tCB (rListOf K) (tCons (tVar 14) tNil))) (by rfl) scLBent.nd (pi_seq (pv 4)) (blkOk_by (own := [("_law_span", 14)]) (N := nLBent) (sc := defScope sLBent) (by decide +kernel)) (fun _ _ _ _ _ => (pg_name (i := 14) scLBent.nd rfl (.inl rfl))) (fun _ _ _ _ _ => pts_nil) (fun _ _ _ _ _ => (pe_callTy (T := "list") call_list_of (by rfl) G.list (by decide +kernel) (pa_cons (pv 14) pa_nil)))) pa_nil)))) (pa_cons pe_bl pa_nil))))))))))))), ?_⟩
    obtain ⟨a, e, xs, rfl, ha, he, hw⟩ := hs
    refine ⟨_, rfl, a, _, rfl, .inl (SqT.of ha), rfl, _, _, rfl, _, _, rfl, _, _, rfl, rfl, ?_⟩
    refine ⟨.ref p, rfl, p, 8, rfl, by decide, by decide, hb, fun w1 H1 hw1 x1 => ?_⟩
    have b1 := x1.1
    have he1 := ExB.tup hb x1 he
    have xl : xs.length ≤ 19 := by rw [← Paired.length hw]; exact n.few
    refine ⟨.ref p, rfl, .ref e, rfl, e, _, rfl, .inr (SqT.of he1), _, _, rfl, rfl, p, xs.length + 1, rfl, by omega, by omega, b1, fun w2 H2 hw2 x2 => ⟨_, _, rfl, ?_⟩⟩
    have x12 := ExB.trans x1 x2
    -- what stands from here on
    have stood : ∀ H3, Ex H2 H3 → ExB p H H3 ∧ BoxAt H3 p ∧ H3 a = some (.tup [.int (w.length : Int), nonV la, .ref e]) ∧ H3 e = some (.tup xs) ∧ Paired (SpT H3) L xs := fun H3 e3 => by
      have x3 := ExB.post x12 e3
      exact ⟨x3, x3.1, ExB.tup hb x3 ha, ExB.tup hb x3 he, Paired.mapP hw fun s v ⟨b, h1, h2⟩ => ⟨b, h1, ExB.tup hb x3 h2⟩⟩
    have spe : ∀ {H3 : Hp}, Paired (SpT H3) L xs → Paired (SpE K H3) L xs := fun h => Paired.mapP h fun _ _ h => h.e
    have fla : flatV (nonV la) = true := by cases la <;> rfl
    dsimp only
    have wt : ∀ (i : Int) {σ : L2.St} {H3 : Hp}, σ[5]? = some (some (.int (w1 : Int))) → EvT (tTest (tOp rEq (tVar 5) (tC (.int i)))) σ H3 (decide ((w1 : Int) = i)) := fun i σ H3 h => et_test (ev_op (ev_var h) ev_c rv_eqI2)
    have lt : ∀ {σ : L2.St} {H3 : Hp}, σ[4]? = some (some (.ref e)) → σ[6]? = some (some (.int (w2 : Int))) → H3 e = some (.tup xs) → EvT (tTest (tOp (rI0 fun i j => .bl (decide (i < j))) (tVar 6) (tCB (fun zs H Q => ∃ p ys, zs = [V.ref p] ∧ (SqL K H p ys ∨ SqT K H p ys) ∧ Q (.int (ys.length : Int)) H) (tCons (tVar 4) tNil)))) σ H3 (decide ((w2 : Int) < (xs.length : Int))) :=
      fun {σ H3} h4 h6 h => et_test (ev_op (ev_var h6) (ev_cb (ec (ev_var h4) ez) (rc_lenE' (.inl (SqT.of h)))) rv_I0)
    refine q_when (wt 0 rfl) (fun _ H3 e3 => ?_) fun _ H3 e3 => ?_
    · -- a thing that is no store
      obtain ⟨x3, b3, ha3, he3, hw3⟩ := stood H3 e3
      refine ⟨.ref p, rfl, ?_⟩
      refine et_slT (ET.var rfl ha3) eo_none (eo_some ev_c) _ (Ex.refl _) _ fun t1 H4 x4 h4 => ?_
      refine et_catT (ET.var rfl (x4 _ _ ha3)) (ET.ofU (eu_tup (ec ev_c ez) (by decide))) (by show 4 ≤ 100000; decide) _ (Ex.refl _) _ fun t2 H5 x5 h5 => ?_
      refine ⟨_, rfl, _, rfl, by show 3 ≤ sizeLine; decide, fun t3 n3 => ⟨_, rfl, _, rfl, by show 3 ≤ sizeLine; decide, fun t4 n4 => ⟨_, rfl, _, rfl, by show 3 ≤ sizeLine; decide, fun t5 n5 => ⟨by show 8 ≤ sizeLine; decide, fun l0 n0 => ?_⟩⟩⟩⟩
      have y3 := Ex.new n3 (o := .tup [V.int (w.length : Int), nonV la, .non])
      have y4 := Ex.new n4 (o := .tup [V.non, nonV la, .ref e])
      have y5 := Ex.new n5 (o := .tup [V.bl true, nonV la, .ref e])
      have y0 := Ex.new n0 (o := .lst [V.non, .int 5, .ref t1, .ref t2, .str "store", .ref t3, .ref t4, .ref t5])
      have b9 := b3.ex (x4.trans (x5.trans (y3.trans (y4.trans (y5.trans y0)))))
      refine ⟨p, l0, _, rfl, b9, upd_same, (b3.ex (x4.trans (x5.trans (y3.trans (y4.trans y5))))).ne' n0, by show 1 ≤ 8; decide, by show 8 ≤ 1000; decide, fun u H' hu xb => ⟨by show 2 ≤ sizeLine; decide, fun r hr => ?_⟩⟩
      have yr := Ex.new hr (o := .tup [u, V.bl false])
      have tf : ∀ {q : Addr} {ys : List V}, _ → (upd H' r (.tup [u, V.bl false])) q = some (.tup ys) := fun {q ys} h => yr _ _ (ExB.tup b9 xb h)
      refine kk r u false _ (ExB.post (ExB.trans (ExB.post x3 (x4.trans (x5.trans (y3.trans (y4.trans (y5.trans y0)))))) xb) yr) upd_same ?_
      simp only [List.mem_cons, List.not_mem_nil, or_false] at hu
      rcases hu with rfl | rfl | rfl | rfl | rfl | rfl | rfl | rfl
      · exact .flat rfl
      · exact .flat rfl
      · exact .len (.inl (SqT.of (tf ((x5.trans (y3.trans (y4.trans (y5.trans y0)))) _ _ h4)))) (by show 2 ≠ 3; decide)
      · exact .len (.inl (SqT.of (tf ((y3.trans (y4.trans (y5.trans y0))) _ _ h5)))) (by show 4 ≠ 3; decide)
      · exact .flat rfl
      · exact .spans (.inl (SqT.of (tf ((y4.trans (y5.trans y0)) _ _ upd_same)))) (.no rfl)
      · exact .laid (.inl (SqT.of (tf ((y5.trans y0) _ _ upd_same)))) rfl rfl
      · exact .laid (.inl (SqT.of (tf (y0 _ _ upd_same)))) rfl rfl
    refine q_when (wt 1 rfl) (fun _ H4 e4 => ?_) fun _ H4 e4 => ?_
    · -- a last stamp that is none
      obtain ⟨x3, b3, ha3, he3, hw3⟩ := stood H4 (e3.trans e4)
      refine ⟨_, rfl, .ref p, rfl, _, _, rfl, rfl, by show 3 ≤ sizeLine; decide, fun l0 n0 => ?_⟩
      have y0 := Ex.new n0 (o := .lst [V.int (0 - 1), .bl true, .str "5"])
      have b9 := b3.ex y0
      refine ⟨p, l0, _, rfl, b9, upd_same, b3.ne' n0, by show 1 ≤ 3; decide, by show 3 ≤ 1000; decide, fun u H' hu xb => ⟨_, rfl, by show 3 ≤ sizeLine; decide, fun t ht => ⟨by show 2 ≤ sizeLine; decide, fun r hr => ?_⟩⟩⟩
      have yt := Ex.new ht (o := .tup [V.int (w.length : Int), u, .ref e])
      have yr := Ex.new hr (o := .tup [V.ref t, V.bl false])
      have xf := ExB.post (ExB.trans (ExB.post x3 y0) xb) (yt.trans yr)
      refine kk r (.ref t) false _ xf upd_same (.last (.inl (SqT.of (yr _ _ upd_same))) (are_of n (fun _ h => h) (.inl (SqT.of (ExB.tup hb xf he))) (Paired.mapP hw fun s v ⟨b, h1, h2⟩ => ⟨b, h1, .inl (SqT.of (ExB.tup hb xf h2))⟩)) ?_ ?_)
      · simp only [List.mem_cons, List.not_mem_nil, or_false] at hu
        rcases hu with rfl | rfl | rfl <;> rfl
      · simp only [List.mem_cons, List.not_mem_nil, or_false] at hu
        rcases hu with rfl | rfl | rfl <;> cases w.length <;> rfl
    refine q_when (wt 2 rfl) (fun _ H5 e5 => ?_) fun _ H5 e5 => ?_
    · -- no last stamp
      obtain ⟨x3, b3, ha3, he3, hw3⟩ := stood H5 (e3.trans (e4.trans e5))
      obtain ⟨d, hd⟩ : ∃ d : Bool, decide ((w.length : Int) = 0) = d := ⟨_, rfl⟩
      refine ⟨_, rfl, _, rfl, by show 3 ≤ sizeLine; decide, fun t ht => (ev_is (w := V.bl d) (ev_op (ev_var rfl) ev_c rv_eqI2) (by rw [hd])) _ (Ex.refl _) _ fun H6 e6 => ⟨by show 2 ≤ sizeLine; decide, fun r hr => ?_⟩⟩
      have yt := Ex.new ht (o := .tup [V.int (w.length : Int), .non, .ref e])
      have yr := Ex.new hr (o := .tup [V.ref t, V.bl d])
      have xf := ExB.post x3 (yt.trans (e6.trans yr))
      have qt := (e6.trans yr) t _ upd_same
      have ar := are_of n (fun _ h => h) (.inl (SqT.of (ExB.tup hb xf he))) (Paired.mapP hw fun s v ⟨b, h1, h2⟩ => ⟨b, h1, .inl (SqT.of (ExB.tup hb xf h2))⟩) (K := K)
      refine kk r (.ref t) _ _ xf upd_same ?_
      by_cases z : w.length = 0
      · have := StH3.shape (k := k) (.inl (SqT.of qt)) ar (.inl (SqT.of (ExB.tup hb xf he))) (Paired.mapP hw fun s v ⟨b, h1, h2⟩ => ⟨b, h1, .inl (SqT.of (ExB.tup hb xf h2))⟩) (by rw [z]; rfl) (by omega) (by have := n.few; omega)
        rw [n.prs, same n.k2 n.fl] at this
        rw [decide_eq_true (show (w.length : Int) = 0 by omega)] at hd
        cases hd
        exact this
      · rw [decide_eq_false (show ¬ (w.length : Int) = 0 by omega)] at hd
        cases hd
        refine .last (.inl (SqT.of qt)) ar rfl ?_
        cases q : w.length with
        | zero => exact absurd q z
        | succ l => rfl
    have sz : ∀ {n : Nat}, n ≤ 100 → n ≤ 100000 := fun h => Nat.le_trans h (by decide)
    have cd : cutV xs (some ((w2 : Int) + 1)) none = xs.drop (w2 + 1) ∨ xs.length < w2 + 1 := by
      by_cases z : xs.length < w2 + 1
      · exact .inr z
      · refine .inl ?_
        rw [show (w2 : Int) + 1 = ((w2 + 1 : Nat) : Int) by omega]
        exact cut_drop (by omega)
    refine q_when (et_and (wt 3 rfl) fun _ => lt rfl rfl (stood H5 (e3.trans (e4.trans e5))).2.2.2.1) (fun z H6 e6 => ?_) fun _ H6 e6 => ?_
    · -- a span that is none
      obtain ⟨x3, b3, ha3, he3, hw3⟩ := stood H6 (e3.trans (e4.trans (e5.trans e6)))
      have hlt : w2 < xs.length := by have := of_decide_eq_true (Bool.and_eq_true_iff.mp z).2; omega
      obtain ⟨x, hx⟩ : ∃ x, xs[w2]? = some x := ⟨_, List.getElem?_eq_getElem hlt⟩
      obtain ⟨s, hs, b, rfl, hbq⟩ := Paired.atR hw3 hx
      have sL := List.mem_of_getElem? hs
      obtain ⟨so, sn, slo, shi⟩ := n.ok s sL
      refine asg_of ((ev_op (ev_var rfl) (ev_var rfl) (rv_ixQ (.inl (SqT.of he3)) (atI_nat hx))) _ (Ex.refl _) _ fun H7 e7 => ⟨b, s.vs, rfl, .inl (SqT.of (e7 _ _ hbq)), rfl, _, _, rfl, _, _, rfl, _, _, rfl, _, _, rfl, _, _, rfl, rfl, ?_⟩)
      try dsimp only
      refine asg_of ⟨.ref p, rfl, _, rfl, _, rfl, _, rfl, _, rfl, _, rfl, _, _, rfl, rfl, by show 5 ≤ sizeLine; decide, fun t1 n1 => ⟨_, rfl, _, rfl, _, rfl, _, _, rfl, rfl, ⟨by decide, by decide, by decide⟩, _, _, rfl, rfl, _, rfl, _, rfl, by show 5 ≤ sizeLine; decide, fun t2 n2 => ⟨_, rfl, _, rfl, _, rfl, _, rfl, by show 4 ≤ sizeLine; decide, fun t3 n3 => ⟨by show 4 ≤ sizeLine; decide, fun l0 n0 => ?_⟩⟩⟩⟩
      have y1 := Ex.new n1 (o := .tup [V.int (s.f : Int), .int (s.n : Int), .int s.w, .int s.lo, .int (s.lo - 1)])
      have y2 := Ex.new n2 (o := .tup [V.int (s.f : Int), .int (s.n : Int), .int (s.w + 10 ^ (7 : Int).toNat), .int s.lo, .int s.hi])
      have y3 := Ex.new n3 (o := .tup [V.int (s.f : Int), .int (s.n : Int), .int s.w, .int s.lo])
      have y0 := Ex.new n0 (o := .lst [V.ref t1, .ref t2, .ref t3, .non])
      have yE := e7.trans (y1.trans (y2.trans (y3.trans y0)))
      have b9 := b3.ex yE
      refine ⟨p, l0, _, rfl, b9, upd_same, (b3.ex (e7.trans (y1.trans (y2.trans y3)))).ne' n0, by show 1 ≤ 4; decide, by show 4 ≤ 1000; decide, fun u H8 hu xb => gName_of ?_⟩
      try dsimp only
      have he8 := ExB.tup b9 xb (yE _ _ he3)
      have cd := cd.resolve_right (by omega)
      refine ⟨_, rfl, _, rfl, ?_⟩
      refine et_catT (et_catT (et_slT (ET.var rfl he8) eo_none (eo_some (ev_var rfl))) (ET.ofU (eu_tup (ec (ev_var rfl) ez) (by show 1 ≤ 100000; decide))) (sz (by rw [cut_take (by omega), List.length_take, List.length_singleton]; omega))) (et_slT (ET.var rfl he8) (eo_some (ev_op (ev_var rfl) ev_c rv_I0)) eo_none)
        (sz (by rw [cut_take (by omega), cd, List.length_append, List.length_singleton, List.length_take, List.length_drop]; omega)) _ (Ex.refl _) _ fun q H9 x9 h9 => ⟨by show 3 ≤ sizeLine; decide, fun t ht => ⟨by show 2 ≤ sizeLine; decide, fun r hr => ?_⟩⟩
      rw [cut_take (by omega), cd] at h9
      have yt := Ex.new ht (o := .tup [V.int (w.length : Int), nonV la, .ref q])
      have yr := Ex.new hr (o := .tup [V.ref t, V.bl false])
      have yl := x9.trans (yt.trans yr)
      have xf := ExB.post (ExB.trans (ExB.post x3 yE) xb) yl
      have hwf := Paired.mapP hw fun s v ⟨b, h1, h2⟩ => (⟨b, h1, .inl (SqT.of (ExB.tup hb xf h2))⟩ : SpE K _ s v)
      have hsp : K13X.SpanH K (upd (upd H9 t (.tup [V.int (w.length : Int), nonV la, .ref q])) r (.tup [V.ref t, V.bl false])) u false := by
        simp only [List.mem_cons, List.not_mem_nil, or_false] at hu
        rcases hu with rfl | rfl | rfl | rfl
        · have := K13X.SpanH.five (K := K) (.inl (SqT.of (yl _ _ (ExB.tup b9 xb ((y2.trans (y3.trans y0)) _ _ upd_same))))) (fun x hx => by
            simp only [List.mem_cons, List.not_mem_nil, or_false] at hx
            rcases hx with rfl | rfl | rfl | rfl | rfl <;> rfl) fun m e => by cases e; omega
          exact Eq.mp (congrArg (K13X.SpanH K _ _) low_high) this
        · have := K13X.SpanH.five (K := K) (.inl (SqT.of (yl _ _ (ExB.tup b9 xb ((y3.trans y0) _ _ upd_same))))) (fun x hx => by
            simp only [List.mem_cons, List.not_mem_nil, or_false] at hx
            rcases hx with rfl | rfl | rfl | rfl | rfl <;> rfl) fun m e => by cases e; omega
          exact Eq.mp (congrArg (K13X.SpanH K _ _) (far_off so sn slo shi)) this
        · exact .few (.inl (SqT.of (yl _ _ (ExB.tup b9 xb (y0 _ _ upd_same))))) (by show 4 ≠ 5; decide)
        · exact .no rfl
      have ar := K13X.AreS.seq (K := K) (.inl (SqT.of ((yt.trans yr) _ _ h9))) (Paired.app (Paired.app (spans_of n (xs := xs) (fun _ h => List.mem_of_mem_take h) (Paired.takeP hwf w2)) (.cons hsp .nil)) (spans_of n (xs := xs) (fun _ h => List.mem_of_mem_drop h) (Paired.dropP hwf (w2 + 1))))
      rw [show (((L.take w2).map fun _ => true) ++ [false] ++ ((L.drop (w2 + 1)).map fun _ => true)).all id = false by simp] at ar
      exact kk r (.ref t) false _ xf upd_same (.spans (.inl (SqT.of (yr _ _ upd_same))) ar)
    refine q_when (et_and (wt 4 rfl) fun _ => lt rfl rfl (stood H6 (e3.trans (e4.trans (e5.trans e6)))).2.2.2.1) (fun z H7 e7 => ?_) fun _ H7 e7 => ?_
    · -- a span left out
      obtain ⟨x3, b3, ha3, he3, hw3⟩ := stood H7 (e3.trans (e4.trans (e5.trans (e6.trans e7))))
      have hlt : w2 < xs.length := by have := of_decide_eq_true (Bool.and_eq_true_iff.mp z).2; omega
      have cd := cd.resolve_right (by omega)
      refine asg_of (et_catT (et_slT (ET.var rfl he3) eo_none (eo_some (ev_var rfl))) (et_slT (ET.var rfl he3) (eo_some (ev_op (ev_var rfl) ev_c rv_I0)) eo_none) (sz (by rw [cut_take (by omega), cd, List.length_take, List.length_drop]; omega)) _ (Ex.refl _) _ fun q H8 x8 h8 => gName_of ?_)
      try dsimp only
      rw [cut_take (by omega), cd] at h8
      obtain ⟨d, hd⟩ : ∃ d : Bool, decide (w2 = 0) = d := ⟨_, rfl⟩
      have he8 := x8 _ _ he3
      have ne : L.isEmpty = false := by
        cases L with
        | nil => rw [← Paired.length hw] at hlt; cases hlt
        | cons s L => rfl
      have ed : (decide ((w2 : Int) = 0) && !L.isEmpty) = d := by
        rw [ne, ← hd, Bool.not_false, Bool.and_true]
        exact decide_eq_decide.mpr (by omega)
      refine ⟨_, rfl, _, rfl, _, rfl, by show 3 ≤ sizeLine; decide, fun t ht => ?_⟩
      have yt := Ex.new ht (o := .tup [V.int (w.length : Int), nonV la, .ref q])
      refine (ev_is (w := V.bl d) (ev_andV (ev_op (ev_var rfl) ev_c rv_eqI2) fun _ => ev_neNil rfl (yt _ _ he8) (Paired.mapP hw3 fun _ _ h => h.ex (x8.trans yt))) (by rw [ed])) _ (Ex.refl _) _ fun H9 e9 => ⟨by show 2 ≤ sizeLine; decide, fun r hr => ?_⟩
      have yr := Ex.new hr (o := .tup [V.ref t, V.bl d])
      have yl := yt.trans (e9.trans yr)
      have xf := ExB.post x3 (x8.trans yl)
      have hwf := Paired.mapP hw fun s v ⟨b, h1, h2⟩ => (⟨b, h1, .inl (SqT.of (ExB.tup hb xf h2))⟩ : SpE K _ s v)
      have hwl := Paired.app (Paired.takeP hwf w2) (Paired.dropP hwf (w2 + 1))
      have hq := SqE.ex (K := K) (.inl (SqT.of h8)) yl
      have sv := StH3.shape (k := k) (K := K) (.inl (SqT.of ((e9.trans yr) _ _ upd_same))) (are_of n (fun s hs => (List.mem_append.mp hs).elim List.mem_of_mem_take List.mem_of_mem_drop) hq hwl) hq hwl n.las (by have := n.l19; omega) (by rw [List.length_append, List.length_take, List.length_drop]; have := n.few; omega)
      have ll : w2 < (shp k f w.length).length := by rw [← n.len, Paired.length hw]; exact hlt
      rw [List.map_append, List.map_take, List.map_drop, n.prs, cut4 n.k2 n.k4 n.l19 n.fl ll rfl, hd] at sv
      exact kk r (.ref t) d _ xf upd_same sv
    refine q_when (wt 5 rfl) (fun _ H8 e8 => ?_) fun _ H8 e8 => ?_
    · -- a row more
      obtain ⟨x3, b3, ha3, he3, hw3⟩ := stood H8 (e3.trans (e4.trans (e5.trans (e6.trans (e7.trans e8)))))
      obtain ⟨m, hm⟩ : ∃ m : Nat, (V.int (m : Int)) = if (!decide (nonV la = V.non)) = true then nonV la else .int 0 := by
        cases la with
        | none => exact ⟨0, rfl⟩
        | some m => exact ⟨m, rfl⟩
      have ei : ∀ {σ : L2.St} {H9 : Hp}, σ[3]? = some (some (nonV la)) → Ev (tIf (tTest (tNotN (tVar 3))) (tVar 3) (tC (.int 0))) σ H9 (.int (m : Int)) := fun {σ H9} h =>
        ev_if (et_test (ev_notN h)) (fun z => by rw [hm, if_pos z]; exact ev_var h) fun z => by rw [hm, if_neg (by rw [z]; decide)]; exact ev_c
      refine ⟨_, rfl, _, _, rfl, rfl, ?_⟩
      refine ei rfl _ (Ex.refl _) _ fun H9 e9 => ⟨_, rfl, by show 3 ≤ sizeLine; decide, fun t ht => ?_⟩
      have yt := Ex.new ht (o := .tup [V.int ((w.length : Int) + 1), .int (m : Int), .ref e])
      obtain ⟨d, hd⟩ : ∃ d : Bool, L.isEmpty = d := ⟨_, rfl⟩
      refine (ev_is (w := V.bl d) (ev_eqNil rfl ((e9.trans yt) _ _ he3) (Paired.mapP hw3 fun _ _ h => h.ex (e9.trans yt))) (by rw [hd])) _ (Ex.refl _) _ fun H10 e10 => ⟨by show 2 ≤ sizeLine; decide, fun r hr => ?_⟩
      have yr := Ex.new hr (o := .tup [V.ref t, V.bl d])
      have xf := ExB.post x3 (e9.trans (yt.trans (e10.trans yr)))
      have hwf := Paired.mapP hw fun s v ⟨b, h1, h2⟩ => (⟨b, h1, .inl (SqT.of (ExB.tup hb xf h2))⟩ : SpE K _ s v)
      have hq : SqE K _ e xs := .inl (SqT.of (ExB.tup hb xf he))
      have qt := (e10.trans yr) _ _ (show (upd H9 t (.tup [V.int ((w.length : Int) + 1), .int (m : Int), .ref e])) t = some (.tup [V.int ((w.length + 1 : Nat) : Int), .int (m : Int), .ref e]) from upd_same)
      have sv := StH3.shape (k := k) (K := K) (.inl (SqT.of qt)) (are_of n (fun _ h => h) hq hwf) hq hwf (decide_eq_true (show (m : Int) ≥ 0 by omega)) (by have := n.l19; omega) (by have := n.few; omega)
      have ee : (shp k f w.length).isEmpty = d := by
        rw [← hd, ← n.prs]
        cases L <;> rfl
      rw [n.prs, cut5 n.k2 n.k4 n.l19 n.fl, ee] at sv
      exact kk r (.ref t) d _ xf upd_same sv
    · -- in lists
      obtain ⟨x3, b3, ha3, he3, hw3⟩ := stood H8 (e3.trans (e4.trans (e5.trans (e6.trans (e7.trans e8)))))
      have hxl : L.length = xs.length := Paired.length hw
      refine ⟨_, rfl, _, rfl, .ref e, rfl, e, xs, rfl, .inl (SqT.of he3), fun J Gd wk hG D hD => ?_⟩
      refine lc_gen wk (fun m H' acc => (∃ z, H' D = some (.lst z)) ∧ Paired (fun (s : S5) (v : V) => ∃ b, v = .ref b ∧ b ≠ D ∧ H' b = some (.lst s.vs)) (L.take m) acc) (by omega) hD (fun m H' xs ys acc h r => ?_) ⟨⟨[], upd_same⟩, .nil⟩ hG ?_ ?_
      · exact ⟨⟨ys, upd_same⟩, Paired.mapP r.2 fun p v ⟨b, h1, h2, h3⟩ => ⟨b, h1, h2, by rw [upd_ne h2]; exact h3⟩⟩
      · intro m y Ha Hb acc hi ex yy hR Qy Qn hy hn
        obtain ⟨rfl, hx⟩ := yy
        obtain ⟨⟨z, hz⟩, hR⟩ := hR
        obtain ⟨s, hs, hp⟩ := Paired.atR hw3 hx
        obtain ⟨b, rfl, hb⟩ := hp.ex ex
        have tk : L.take (m + 1) = L.take m ++ [s] := by rw [List.take_add_one, hs]; rfl
        refine ⟨wipe1, yes_then ⟨.ref b, wipe_at (by show 14 < 15; decide), b, _, rfl, .inr (SqT.of hb), fun r hr => hy _ _ (Ex.new hr) ?_⟩⟩
        rw [tk]
        exact ⟨⟨z, Ex.new hr _ _ hz⟩, Paired.app (Paired.mapP hR fun p v ⟨b, h1, h2, h3⟩ => ⟨b, h1, h2, Ex.new hr _ _ h3⟩) (.cons ⟨r, rfl, (fun w => by rw [w, hz] at hr; cases hr), upd_same⟩ .nil)⟩
      · intro H9 acc e9 hD9 hR
        rw [← hxl, List.take_length] at hR
        refine ⟨by show 3 ≤ sizeLine; decide, fun t ht => ⟨by show 2 ≤ sizeLine; decide, fun r hr => ?_⟩⟩
        have yt := Ex.new ht (o := .lst [V.int (w.length : Int), nonV la, .ref D])
        have yr := Ex.new hr (o := .tup [V.ref t, V.bl true])
        have xf := ExB.post x3 (e9.trans (yt.trans yr))
        have hwf := Paired.mapP hR.2 fun p v ⟨b, h1, _, h3⟩ => (⟨b, h1, .inr (SqL.of ((yt.trans yr) _ _ h3))⟩ : SpE K _ p v)
        have hq : SqE K _ D acc := .inr (SqL.of ((yt.trans yr) _ _ hD9))
        have sv := StH3.shape (k := k) (K := K) (.inr (SqL.of (yr _ _ upd_same))) (are_of n (fun _ h => h) hq hwf) hq hwf n.las (by have := n.l19; omega) (by have := n.few; omega)
        rw [n.prs, same n.k2 n.fl] at sv
        exact kk r (.ref t) true _ xf upd_same sv
end
end K13
set_option Elab.async false
set_option linter.all false
set_option maxRecDepth 100000
set_option maxHeartbeats 2000000
namespace K13
open PySem PySem.Spec PyProof.Rows L2 GxR Pu Evl Sh Sv
theorem kp_add {Z : Tx} {p D : Addr} {F : Hp → Prop} {H H' : Hp} (k : Kp Z [p] F H) (n : H D = none) (e : Ex H H') : Kp Z [p, D] F H' := fun H2 y =>
  k H2 ⟨fun b o hb m q => y.kp b o (fun z => by
    rcases List.mem_cons.mp z with z | z
    · exact hb (List.mem_singleton.mpr z)
    · rw [List.mem_singleton.mp z, n] at q
      cases q) m (e b o q), fun b q => ex_fresh e (y.fr b q), y.ok⟩
abbrev lawN : List Str := ["_law_script", "_law_k", "_law_box_here", "_law_rows", "_law_turn", "_law_value", "_law_due", "_law_bad", "_law_keep", "_law_none", "_law_odd", "_law_stamp", "_law_store"]
theorem scLaw : FnScope lawN ["_law_script"] (defScope sLaw) := ⟨rfl, rfl, rfl, by decide +kernel, rfl, by decide +kernel, by decide +kernel⟩
def lawS (i : Nat) : Stmt := (defBody sLaw).getD i (.Pass ⟨0, 0, 0, 0⟩)
def inS (j : Nat) : Stmt := (bodyOf (lawS 0)).getD j (.Pass ⟨0, 0, 0, 0⟩)
abbrev LX (P : Program) (w : World) (K : PySem.W.Frag) (mg : Str → Option Value) (base : Heap) (fa : Addr) (cdv : Value) (s0 : Shared) (H0 : Hp) : Cx := (cxOf CX0 P w K mg base lawN "law" (defScope sLaw) fa cdv callerA [] s0 H0 E0).nox
def A0 (K : PySem.W.Frag) (Z : Tx) (a : Addr) (ns : List Int) (_ : Nat) (σ : L2.St) (H : Hp) : Prop := ∃ p, σ.length = 13 ∧ σ[0]? = some (some (.ref a)) ∧ Z.Ok H ∧ Kp Z [p] (fun H => SqL K H a (ns.map V.int)) H
def A1 (K : PySem.W.Frag) (Z : Tx) (a : Addr) (ns : List Int) (_ : Nat) (σ : L2.St) (H : Hp) : Prop := ∃ p, σ.length = 13 ∧ σ[0]? = some (some (.ref a)) ∧ σ[2]? = some (some (.ref p)) ∧ Z.Ok H ∧ BoxAt H p ∧ Kp Z [p] (fun H => SqL K H a (ns.map V.int)) H
/-- rows under way -/
structure Rw (K : PySem.W.Frag) (Z : Tx) (a : Addr) (ns : List Int) (p r : Addr) (zs : List V) (st : Nat) (d : D9) (i : Nat) (σ : L2.St) (H : Hp) : Prop where
  len : σ.length = 13
  v0 : σ[0]? = some (some (.ref a))
  v2 : σ[2]? = some (some (.ref p))
  v3 : σ[3]? = some (some (.ref r))
  v8 : σ[8]? = some (some (.int (d.k : Int)))
  v11 : σ[11]? = some (some (.int (st : Int)))
  ok : Z.Ok H
  box : BoxAt H p
  rp : r ≠ p
  hr : H r = some (.lst zs)
  rw : Paired (RowT H) d.R zs
  scr : Kp Z [p, r] (fun H => SqL K H a (ns.map V.int)) H
  n : Num d i
  k4 : d.k ≤ 4
  v4 : ∀ y ∈ d.v, -4 ≤ y ∧ y ≤ 4
  hst : ∀ m, d.la = some m → m < st
  st3 : st ≤ 3 * d.v.length + 2
  l19 : d.v.length ≤ 19
section
variable {K : PySem.W.Frag} {Z : Tx} {a p r : Addr} {ns : List Int} {zs : List V} {st i j : Nat} {d : D9} {σ : L2.St} {H H' : Hp} {u : Option V}
theorem Rw.exB (c : Rw K Z a ns p r zs st d i σ H) (x : ExB p H H') : Rw K Z a ns p r zs st d i σ H' :=
  have g := Go.box c.ok c.box x
  ⟨c.len, c.v0, c.v2, c.v3, c.v8, c.v11, g.ok, x.1, c.rp, x.2 _ _ c.rp c.hr, Paired.mapP c.rw fun _ _ ⟨b, e, h⟩ => ⟨b, e, ExB.tup c.box x h⟩, c.scr.go (g.mono fun b hb => by rw [List.mem_singleton.mp hb]; exact List.mem_cons_self ..), c.n, c.k4, c.v4, c.hst, c.st3, c.l19⟩
theorem Rw.ex (c : Rw K Z a ns p r zs st d i σ H) (e : Ex H H') : Rw K Z a ns p r zs st d i σ H' :=
  ⟨c.len, c.v0, c.v2, c.v3, c.v8, c.v11, c.ok.ex e, c.box.ex e, c.rp, e _ _ c.hr, Paired.mapP c.rw fun _ _ h => h.ex e, c.scr.go (Go.ex c.ok e), c.n, c.k4, c.v4, c.hst, c.st3, c.l19⟩
theorem Rw.set4 (c : Rw K Z a ns p r zs st d i σ H) : Rw K Z a ns p r zs st d i (σ.set 4 u) H :=
  ⟨by rw [List.length_set]; exact c.len, sl_ne c.v0 (by decide), sl_ne c.v2 (by decide), sl_ne c.v3 (by decide), sl_ne c.v8 (by decide), sl_ne c.v11 (by decide), c.ok, c.box, c.rp, c.hr, c.rw, c.scr, c.n, c.k4, c.v4, c.hst, c.st3, c.l19⟩
theorem Rw.zl (c : Rw K Z a ns p r zs st d i σ H) : zs.length ≤ i := by rw [← Paired.length c.rw]; exact c.n.ri
end
def B2 (K : PySem.W.Frag) (Z : Tx) (a : Addr) (ns : List Int) (i : Nat) (σ : L2.St) (H : Hp) : Prop := ∃ p r zs st d, Rw K Z a ns p r zs st d i σ H ∧ d.v.length = i
def B3 (K : PySem.W.Frag) (Z : Tx) (a : Addr) (ns : List Int) (_ : Nat) (σ : L2.St) (H : Hp) : Prop := ∃ p r zs st d i, Rw K Z a ns p r zs st d i σ H ∧ i ≤ 20
def nonD : Option Nat → PyData
  | none => .none
  | some n => .int (n : Int)
theorem dpNon {K : PySem.W.Frag} {H : Hp} (o : Option Nat) : Dp K H (nonV o) (nonD o) := by
  cases o with
  | none => exact .non
  | some n => exact .int _
def dRow (r : Option Nat × Int) : PyData := .tuple [nonD r.1, .int r.2]
theorem dpRows {K : PySem.W.Frag} {H : Hp} : ∀ {R : List (Option Nat × Int)} {xs : List V}, Paired (RowT H) R xs → DpAll K H xs (R.map dRow)
  | _, _, .nil => .nil
  | _, _, .cons ⟨b, e, h⟩ t => .cons (e ▸ .tup (SqT.of h) (.cons (dpNon _) (.cons (.int _) .nil))) (dpRows t)
theorem layRow (r : Option Nat × Int) : PyData.canLay0 (dRow r) = true := by
  obtain ⟨o, x⟩ := r
  cases o <;> rfl
theorem deepRow (r : Option Nat × Int) : PyData.depth (dRow r) ≤ 1 := by
  obtain ⟨o, x⟩ := r
  cases o <;> exact Nat.le_refl _
theorem layRows : ∀ L : List (Option Nat × Int), PyData.canLayAll0 (L.map dRow) = true
  | [] => rfl
  | s :: L => by
    show (PyData.canLay0 (dRow s) && _) = true
    rw [layRows L, layRow]
    rfl
theorem deepRows : ∀ L : List (Option Nat × Int), PyData.depthAll (L.map dRow) ≤ 1
  | [] => Nat.zero_le _
  | s :: L => by
    show max (PyData.depth (dRow s)) _ ≤ 1
    exact Nat.max_le.mpr ⟨deepRow s, deepRows L⟩
def dRows (L : List (Option Nat × Int)) : PyData := .list (L.map dRow)
theorem shRows (L : List (Option Nat × Int)) : SeqAt.shaped (dRows L) = true := (shaped_d (d := dRows L) (layRows L) (by
  show PyData.depthAll _ + 1 ≤ 64
  have := deepRows L
  omega)).1
theorem eqRows (L : List (Option Nat × Int)) : PyData.eqv (dRows L) (.list []) = L.isEmpty := by cases L <;> rfl
section
variable {P : Program} {w : World} {K : PySem.W.Frag} {mg : Str → Option Value} {base : Heap} {a fa : Addr} {ns : List Int} {cdv : Value} {s0 : Shared} {H0 : Hp} {Z : Tx}
variable {fBox fTake fLA : Addr} {dBox dTake dLA : FuncData}
theorem in_0 (hr : Room 9 (LX P w K mg base fa cdv s0 H0).A) (C1 : Cal P w K mg base "_law_box" ["_law_script", "_law_k"] sBox 1 (spBox K ns) fBox dBox) (hn : ns.length ≤ 100) : Ti (LX P w K mg base fa cdv s0 H0) (inS 0) (fun i σ H => A0 K Z a ns i σ H ∧ σ[1]? = some (some (.int (i : Int))) ∧ i < 4) (A1 K Z a ns) := by
  refine ⟨_, (ps_set (i := 2) scLaw.nd rfl (.inl rfl) (pe_call C1.ok (hr.mono (by decide)) (by rfl) C1.ns.mg C1.ns.fn.kp C1.ns.bd .nil pass0 (pa_cons (pv 0) (pa_cons (pv 1) pa_nil)))), fun i D σ H hA kk => ?_⟩
  obtain ⟨⟨p, len, h0, hz, scr⟩, h1, hi⟩ := hA
  exact ⟨_, h0, _, h1, a, i, rfl, scr.now hz, hn, by omega, fun p' H' hp e hb => kk _ _ ⟨p', by rw [List.length_set]; exact len, sl_ne h0 (by decide), sl_eq (by rw [len]; decide), hz.ex e, hb, scr.renew hp e⟩⟩
theorem in_1 (hr : Room 9 (LX P w K mg base fa cdv s0 H0).A) (C1 : Cal P w K mg base "_law_take" ["_law_box_here", "_law_many"] sTake 1 spTake fTake dTake) : Ti (LX P w K mg base fa cdv s0 H0) (inS 1) (A1 K Z a ns) (fun _ => B2 K Z a ns 0) := by
  refine ⟨_, (ps_asg (pe_tup (pa_cons (pe_op op_add pe_int (pe_call C1.ok (hr.mono (by decide)) (by rfl) C1.ns.mg C1.ns.fn.kp C1.ns.bd .nil pass0 (pa_cons (pv 2) (pa_cons pe_int pa_nil)))) (pa_cons (pe_lst pa_nil) (pa_cons (pe_call C1.ok (hr.mono (by decide)) (by rfl) C1.ns.mg C1.ns.fn.kp C1.ns.bd .nil pass0 (pa_cons (pv 2) (pa_cons pe_int pa_nil))) pa_nil)))) (pg_seq rfl (pgs_cons (pg_name (i := 8) scLaw.nd rfl (.inr rfl)) (pgs_cons (pg_name (i := 3) scLaw.nd rfl (.inl rfl)) (pgs_cons (pg_name (i := 11) scLaw.nd rfl (.inr rfl)) pgs_nil))))), fun i D σ H hA kk => ?_⟩
  obtain ⟨p, len, h0, h2, hz, hb, scr⟩ := hA
  refine ⟨.ref p, h2, p, 3, rfl, by decide, by decide, hb, fun d H2 hd xb => ⟨_, _, rfl, rfl, by show 0 ≤ sizeLine; decide, fun r hr => ⟨.ref p, h2, p, 3, rfl, by decide, by decide, xb.1.ex (Ex.new hr), fun st H4 hst xb4 => ⟨by show 3 ≤ sizeLine; decide, fun t ht => ⟨t, _, rfl, .inl (SqT.of upd_same), rfl, _, _, rfl, _, _, rfl, _, _, rfl, rfl, kk _ _ ?_⟩⟩⟩⟩⟩
  have ed : (2 : Int) + (d : Int) = ((2 + d : Nat) : Int) := by omega
  have x3 := Ex.new hr (o := .lst [])
  have x5 := Ex.new ht (o := .tup [V.int (2 + (d : Int)), .ref r, .int (st : Int)])
  have b3 := xb.1.ex x3
  have rp : r ≠ p := xb.1.ne' hr
  have g2 := Go.box hz hb xb
  have hz3 := g2.ok.ex x3
  have g4 := Go.box hz3 b3 xb4
  have s0 : shp (2 + d) 0 0 = [] := by unfold shp; rw [counts_zero]; rfl
  have n0 : Num (⟨2 + d, 0, [], none, []⟩ : D9) 0 := by
    refine ⟨by show 2 ≤ 2 + d; omega, by show 2 + d ≤ 8; omega, Nat.le_refl _, ⟨Nat.zero_le _, fun y hy => absurd hy List.not_mem_nil⟩, ?_, ⟨fun _ => rfl, fun _ => rfl⟩, (fun m z => nomatch z), Nat.le_refl _, Nat.le_refl _⟩
    have : D9.L (⟨2 + d, 0, [], none, []⟩ : D9) = [] := by
      show (shp (2 + d) 0 0).map _ = []
      rw [s0]
      rfl
    rw [this]
    exact Run.nil
  refine ⟨p, r, [], st, ⟨2 + d, 0, [], none, []⟩, ⟨by rw [List.length_set, List.length_set, List.length_set]; exact len, sl_ne (sl_ne (sl_ne h0 (by decide)) (by decide)) (by decide), sl_ne (sl_ne (sl_ne h2 (by decide)) (by decide)) (by decide), sl_ne (sl_eq (by rw [List.length_set, len]; decide)) (by decide), ?_, sl_eq (by rw [List.length_set, List.length_set, len]; decide),
    g4.ok.ex x5, xb4.1.ex x5, rp, x5 _ _ (xb4.2 _ _ rp upd_same), .nil, ?_, n0, by show 2 + d ≤ 4; omega, (fun y hy => absurd hy List.not_mem_nil), (fun m z => nomatch z), by show st ≤ 3 * 0 + 2; omega, Nat.zero_le _⟩, rfl⟩
  · rw [← ed]
    exact sl_ne (sl_ne (sl_eq (by rw [len]; decide)) (by decide)) (by decide)
  · exact ((kp_add (scr.go g2) hr x3).go (g4.mono fun b hb => by rw [List.mem_singleton.mp hb]; exact List.mem_cons_self ..)).go (Go.ex g4.ok x5)
/-- a row of a laying -/
theorem in_2 (hr : Room 9 (LX P w K mg base fa cdv s0 H0).A) (G : Mg mg) (C1 : Cal P w K mg base "_law_take" ["_law_box_here", "_law_many"] sTake 1 spTake fTake dTake) : Ti (LX P w K mg base fa cdv s0 H0) (inS 2) (fun _ => B2 K Z a ns 0) (fun i σ H => ∃ m, m ≤ 19 ∧ B2 K Z a ns m σ H) := by
  refine ⟨_, (ps_for PassesOwn.never rfl (pi_range1 (by rfl) G.range (pa_cons (pe_call C1.ok (hr.mono (by decide)) (by rfl) C1.ns.mg C1.ns.fn.kp C1.ns.bd .nil pass0 (pa_cons (pv 2) (pa_cons pe_int pa_nil))) pa_nil)) (pg_name (i := 4) scLaw.nd rfl (.inl rfl))
    (pss_cons (ps_expr (pe_bm PySem.F.plainAttrs_list PySem.F.slot_list_append PySem.F.type_list_append mt_append (pv 3) (pa_cons (pe_tup (pa_cons (pv 11) (pa_cons (pe_op op_sub (pe_call C1.ok (hr.mono (by decide)) (by rfl) C1.ns.mg C1.ns.fn.kp C1.ns.bd .nil pass0 (pa_cons (pv 2) (pa_cons pe_int pa_nil))) pe_int) pa_nil))) pa_nil)))
    (pss_one (ps_set (i := 11) scLaw.nd rfl (.inr rfl) (pe_op op_add (pe_op op_add (pv 11) pe_int) (pe_call C1.ok (hr.mono (by decide)) (by rfl) C1.ns.mg C1.ns.fn.kp C1.ns.bd .nil pass0 (pa_cons (pv 2) (pa_cons pe_int pa_nil)))))))), fun i D σ H hA kk => ?_⟩
  obtain ⟨p, r, zs, st, d, c, hl⟩ := hA
  refine ⟨.ref p, c.v2, p, 20, rfl, by decide, by decide, c.box, fun m H2 hm xb => ⟨(m : Int), rfl, by omega, by omega, for_range (lo := 0) (n := (m : Int).toNat) (fun q σ' H' => B2 K Z a ns q σ' H') ⟨p, r, zs, st, d, c.exB xb, hl⟩ (fun q σ' H' hq hP => ?_) fun σ' H' hP => kk _ _ ⟨(m : Int).toNat, by omega, hP⟩⟩⟩
  obtain ⟨p, r, zs, st, d, c, hl⟩ := hP
  have c1 := c.set4 (u := some (.int (0 + (q : Int))))
  refine ⟨.ref r, c1.v3, .inl ⟨rfl, _, SqL.of c1.hr⟩, _, c1.v11, .ref p, c1.v2, p, 9, rfl, by decide, by decide, c1.box, fun x H3 hx xb3 => ⟨_, _, rfl, rfl, by show 2 ≤ sizeLine; decide, fun t ht => ?_⟩⟩
  have c3 := c1.exB xb3
  have e4 := Ex.new ht (o := .tup [V.int (st : Int), .int ((x : Int) - 4)])
  have c4 := c3.ex e4
  have zl := c.zl
  refine ⟨r, zs, .ref t, rfl, rfl, c4.hr, Nat.lt_of_le_of_lt (show zs.length ≤ 100 by omega) (by decide), ?_⟩
  have hb5 : BoxAt (upd (upd H3 t (.tup [V.int (st : Int), .int ((x : Int) - 4)])) r (.lst (zs ++ [.ref t]))) p := by
    obtain ⟨g0, s0, b1, b2⟩ := c4.box
    exact ⟨g0, s0, by rw [upd_ne (fun z => c4.rp z.symm)]; exact b1, b2⟩
  have g5 : Go Z [p, r] _ (upd (upd H3 t (.tup [V.int (st : Int), .int ((x : Int) - 4)])) r (.lst (zs ++ [.ref t]))) := Go.bendD c4.ok c4.hr (List.mem_cons_of_mem _ (List.mem_cons_self ..))
  refine nx_of ?_
  dsimp only
  refine ⟨_, c1.v11, _, _, rfl, rfl, .ref p, c1.v2, p, 3, rfl, by decide, by decide, hb5, fun y H6 hy xb6 => ⟨_, _, rfl, rfl, ?_⟩⟩
  have g6 := Go.box g5.ok hb5 xb6
  have tup : ∀ {b : Addr} {ys : List V}, (upd H3 t (.tup [V.int (st : Int), .int ((x : Int) - 4)])) b = some (.tup ys) → H6 b = some (.tup ys) := fun {b ys} h => ExB.tup hb5 xb6 (by rw [upd_ne (fun z => by rw [z, c4.hr] at h; cases h)]; exact h)
  have est : (st : Int) + 1 + (y : Int) = ((st + 1 + y : Nat) : Int) := by omega
  have st3 := c.st3
  have dl : (d.v ++ [(x : Int) - 4]).length = d.v.length + 1 := by rw [List.length_append, List.length_singleton]
  refine ⟨p, r, zs ++ [.ref t], st + 1 + y, { d with v := d.v ++ [(x : Int) - 4], la := some st, R := d.R ++ [(some st, (x : Int) - 4)] }, ⟨by rw [List.length_set]; exact c1.len, sl_ne c1.v0 (by decide), sl_ne c1.v2 (by decide), sl_ne c1.v3 (by decide), sl_ne c1.v8 (by decide), ?_, g6.ok, xb6.1, c.rp, xb6.2 _ _ c.rp upd_same,
    Paired.app (Paired.mapP c4.rw fun _ _ ⟨b, e, h⟩ => ⟨b, e, tup h⟩) (.cons ⟨t, rfl, tup upd_same⟩ .nil), c4.scr.go (g5.trans (g6.mono fun b hb => by rw [List.mem_singleton.mp hb]; exact List.mem_cons_self ..)), ?_, c.k4, fun z hz => ?_, fun m hm => by cases hm; omega, by show st + 1 + y ≤ 3 * (d.v ++ [(x : Int) - 4]).length + 2; rw [dl]; omega, by show (d.v ++ [(x : Int) - 4]).length ≤ 19; rw [dl]; omega⟩, by show (d.v ++ [(x : Int) - 4]).length = q + 1; rw [dl, hl]⟩
  · rw [← est]
    exact sl_eq (by rw [c1.len]; decide)
  · exact c.n.lay (by omega) (x := (x : Int) - 4) (by omega) (by omega) c.hst (by omega) rfl rfl rfl rfl rfl
  · rcases List.mem_append.mp hz with h | h
    · exact c.v4 z h
    · rw [List.mem_singleton.mp h]
      omega
/-- and a letting go -/
theorem in_3 (hr : Room 9 (LX P w K mg base fa cdv s0 H0).A) (G : Mg mg) (C1 : Cal P w K mg base "_law_take" ["_law_box_here", "_law_many"] sTake 1 spTake fTake dTake) : Ti (LX P w K mg base fa cdv s0 H0) (inS 3) (fun i σ H => ∃ m, m ≤ 19 ∧ B2 K Z a ns m σ H) (B3 K Z a ns) := by
  have hu : (LX P w K mg base fa cdv s0 H0).A.units + 64 < cLine := hr.units
  refine ⟨_, (ps_if (pt_cmpR (op_neD hu) (pv 3) (pe_lst pa_nil) (nomark _)) (pss_one (ps_expr (pe_bm PySem.F.plainAttrs_list PySem.F.slot_list_append PySem.F.type_list_append mt_append (pv 3) (pa_cons (pe_tup (pa_cons pe_non (pa_cons (pe_call C1.ok (hr.mono (by decide)) (by rfl) C1.ns.mg C1.ns.fn.kp C1.ns.bd .nil pass0 (pa_cons (pv 2) (pa_cons (pe_callB call_len_seq (by rfl) G.len PySem.boot_len (pa_cons (pv 3) pa_nil)) pa_nil))) pa_nil))) pa_nil)))) pss_nil), fun i D σ H hA kk => ?_⟩
  obtain ⟨m, hm, p, r, zs, st, d, c, hl⟩ := hA
  have e0 : Ev (tOp (rNeD K) (tVar 3) (tLst tNil)) σ H (.bl (!d.R.isEmpty)) := fun H1 e1 Q q => ⟨_, c.v3, by show 0 ≤ sizeLine; decide, fun r0 hr0 => by
    have x := e1.trans (Ex.new hr0 (o := .lst []))
    refine ⟨dRows d.R, .list [], .lst (SqL.of (x _ _ c.hr)) (dpRows (Paired.mapP c.rw fun _ _ h => h.ex x)), .lst (SqL.of upd_same) .nil, shRows d.R, rfl, ?_⟩
    rw [eqRows]
    exact q _ (Ex.new hr0)⟩
  refine s_when (et_test e0) (fun z H1 e1 => ?_) fun z H1 e1 => kk _ _ ⟨p, r, zs, st, d, m, c.ex e1, by omega⟩
  have c1 := c.ex e1
  have zl := c.zl
  have z1 : 1 ≤ zs.length := by
    rw [← Paired.length c.rw]
    cases hR : d.R with
    | nil => rw [hR] at z; cases z
    | cons _ _ => exact Nat.succ_le_succ (Nat.zero_le _)
  refine ⟨.ref r, c1.v3, .inl ⟨rfl, _, SqL.of c1.hr⟩, .ref p, c1.v2, .ref r, c1.v3, r, _, rfl, .inl (SqL.of c1.hr), p, zs.length, rfl, z1, by omega, c1.box, fun b H3 hb xb3 => ⟨by show 2 ≤ sizeLine; decide, fun t ht => ?_⟩⟩
  have c3 := c1.exB xb3
  have e4 := Ex.new ht (o := .tup [V.non, .int (b : Int)])
  have c4 := c3.ex e4
  refine ⟨r, zs, .ref t, rfl, rfl, c4.hr, Nat.lt_of_le_of_lt (show zs.length ≤ 100 by omega) (by decide), ?_⟩
  have hb5 : BoxAt (upd (upd H3 t (.tup [V.non, .int (b : Int)])) r (.lst (zs ++ [.ref t]))) p := by
    obtain ⟨g0, s0, b1, b2⟩ := c4.box
    exact ⟨g0, s0, by rw [upd_ne (fun z => c4.rp z.symm)]; exact b1, b2⟩
  have g5 : Go Z [p, r] _ (upd (upd H3 t (.tup [V.non, .int (b : Int)])) r (.lst (zs ++ [.ref t]))) := Go.bendD c4.ok c4.hr (List.mem_cons_of_mem _ (List.mem_cons_self ..))
  have tup : ∀ {b' : Addr} {ys : List V}, (upd H3 t (.tup [V.non, .int (b : Int)])) b' = some (.tup ys) → (upd (upd H3 t (.tup [V.non, .int (b : Int)])) r (.lst (zs ++ [.ref t]))) b' = some (.tup ys) := fun {b' ys} h => by rw [upd_ne (fun z => by rw [z, c4.hr] at h; cases h)]; exact h
  refine kk _ _ ⟨p, r, zs ++ [.ref t], st, { d with f := d.f' b, R := d.R ++ [(none, (b : Int))] }, m + 1, ⟨c4.len, c4.v0, c4.v2, c4.v3, c4.v8, c4.v11, g5.ok, hb5, c.rp, upd_same, Paired.app (Paired.mapP c4.rw fun _ _ ⟨b, e, h⟩ => ⟨b, e, tup h⟩) (.cons ⟨t, rfl, tup upd_same⟩ .nil), c4.scr.go g5, c.n.go (b := b) rfl rfl rfl rfl rfl, c.k4, c.v4, c.hst, c.st3, c.l19⟩, by omega⟩
/-- the store is laid -/
structure C (K : PySem.W.Frag) (Z : Tx) (a : Addr) (ns : List Int) (p : Addr) (k f : Nat) (w : List Int) (la : Option Nat) (L : List S5) (st : Nat) (u : V) (σ : L2.St) (H : Hp) : Prop where
  len : σ.length = 13
  v0 : σ[0]? = some (some (.ref a))
  v2 : σ[2]? = some (some (.ref p))
  v8 : σ[8]? = some (some (.int (k : Int)))
  v11 : σ[11]? = some (some (.int (st : Int)))
  v12 : σ[12]? = some (some u)
  ok : Z.Ok H
  box : BoxAt H p
  scr : Kp Z [p] (fun H => SqL K H a (ns.map V.int)) H
  sto : Kp Z [p] (fun H => StT H w.length la L u) H
  n : Sto k f w la L
  hst : ∀ m, la = some m → m < st
  st9 : st ≤ 200
theorem kp_st {M : List Addr} {H : Hp} {l : Nat} {la : Option Nat} {L : List S5} {u : V} (ls : Ls M H) (h : StT H l la L u) : Kp Z M (fun H => StT H l la L u) H := fun H' g => by
  obtain ⟨a, e, xs, rfl, h1, h2, h3⟩ := h
  exact ⟨a, e, xs, rfl, kp_tup ls h1 H' g, kp_tup ls h2 H' g, Paired.mapP h3 fun _ _ ⟨b, e, h⟩ => ⟨b, e, kp_tup ls h H' g⟩⟩
section
variable {p : Addr} {k f : Nat} {v : List Int} {la : Option Nat} {L : List S5} {st : Nat} {u : V} {σ : L2.St} {H H' : Hp} {i : Nat} {y : Option V}
theorem C.go (c : C K Z a ns p k f v la L st u σ H) (g : Go Z [p] H H') (hb : BoxAt H' p) : C K Z a ns p k f v la L st u σ H' := ⟨c.len, c.v0, c.v2, c.v8, c.v11, c.v12, g.ok, hb, c.scr.go g, c.sto.go g, c.n, c.hst, c.st9⟩
theorem C.ex (c : C K Z a ns p k f v la L st u σ H) (e : Ex H H') : C K Z a ns p k f v la L st u σ H' := c.go (Go.ex c.ok e) (c.box.ex e)
theorem C.exB (c : C K Z a ns p k f v la L st u σ H) (x : ExB p H H') : C K Z a ns p k f v la L st u σ H' := c.go (Go.box c.ok c.box x) x.1
theorem C.go0 (c : C K Z a ns p k f v la L st u σ H) (g : Go Z [] H H') : C K Z a ns p k f v la L st u σ H' := c.go g.of0 (c.box.go0 g)
theorem C.set (c : C K Z a ns p k f v la L st u σ H) (h : i = 4 ∨ i = 5 ∨ i = 6 ∨ i = 7 ∨ i = 9 ∨ i = 10) : C K Z a ns p k f v la L st u (σ.set i y) H :=
  ⟨by rw [List.length_set]; exact c.len, sl_ne c.v0 (by omega), sl_ne c.v2 (by omega), sl_ne c.v8 (by omega), sl_ne c.v11 (by omega), sl_ne c.v12 (by omega), c.ok, c.box, c.scr, c.sto, c.n, c.hst, c.st9⟩
end
def B4 (K : PySem.W.Frag) (Z : Tx) (a : Addr) (ns : List Int) (_ : Nat) (σ : L2.St) (H : Hp) : Prop := ∃ p k f w la L st u, C K Z a ns p k f w la L st u σ H
theorem in_4 (hr : Room 9 (LX P w K mg base fa cdv s0 H0).A) (C1 : Cal P w K mg base "laid_all" ["keep", "rows"] sLaidAll 8 (spLaidAll K) fLA dLA) : Ti (LX P w K mg base fa cdv s0 H0) (inS 4) (B3 K Z a ns) (B4 K Z a ns) := by
  refine ⟨_, (ps_set (i := 12) scLaw.nd rfl (.inr rfl) (pe_call C1.ok (hr.mono (by decide)) (by rfl) C1.ns.mg C1.ns.fn.kp C1.ns.bd .nil pass0 (pa_cons (pv 8) (pa_cons (pv 3) pa_nil)))), fun i D σ H hA kk => ?_⟩
  obtain ⟨p, r, zs, st, d, m, c, hm⟩ := hA
  have zl := c.zl
  have hR := c.n.ri
  refine ⟨_, c.v8, _, c.v3, d.k, r, d.R, zs, _, rfl, c.n.k2, c.n.k8, .inr (SqL.of c.hr), c.rw, by omega, c.n.run, fun u H' e h => kk _ _ ⟨p, d.k, d.f, d.v, d.la, d.L, st, u, ?_⟩⟩
  have hb := c.box.ex e
  have st3 := c.st3
  have l19 := c.l19
  exact ⟨by rw [List.length_set]; exact c.len, sl_ne c.v0 (by decide), sl_ne c.v2 (by decide), sl_ne c.v8 (by decide), sl_ne c.v11 (by decide), sl_eq (by rw [c.len]; decide), c.ok.ex e, hb, (c.scr.go (Go.ex c.ok e)).mono (fun b hb => by rw [List.mem_singleton.mp hb]; exact List.mem_cons_self ..), kp_st hb.ls h,
    ⟨c.n.k2, c.k4, c.n.fl, c.l19, c.v4, c.n.nla, rfl⟩, c.hst, by omega⟩
end
end K13
set_option Elab.async false
set_option linter.all false
set_option maxRecDepth 100000
set_option maxHeartbeats 2000000
namespace K13
open PySem PySem.Spec PyProof.Rows L2 GxR Pu Evl Sh Sv
theorem shown_of {K : PySem.W.Frag} {H : Hp} {v : V} {d : PyData} {n m : Nat} (h : Dp K H v d) (hd : isDisplay d = true) (s : Sm n m d) (hn : n ≤ 60) (hm : m ≤ 1000000) : Shown K H v d.shown := .inr ⟨d, h, hd, s.sh, s.nd, s.d60 hn, s.len hm, rfl⟩
theorem shown_bools {K : PySem.W.Frag} {H : Hp} {q : Addr} {x y : Bool} (h : H q = some (.lst [.bl x, .bl y])) : Shown K H (.ref q) (PyData.list [.bool x, .bool y]).shown :=
  shown_of (.lst (SqL.of h) (.cons (.bl _) (.cons (.bl _) .nil))) rfl (Sm.two (Sm.bl x) (Sm.bl y)) (by decide) (by decide)
def B50 (K : PySem.W.Frag) (Z : Tx) (a : Addr) (ns : List Int) (_ : Nat) (σ : L2.St) (H : Hp) : Prop := ∃ p k f w la L st u x due, C K Z a ns p k f w la L st u σ H ∧ σ[5]? = some (some x) ∧ σ[6]? = some (some (.bl due)) ∧ StH3 K H k x due
section
variable {P : Program} {w : World} {K : PySem.W.Frag} {mg : Str → Option Value} {base : Heap} {a fa : Addr} {ns : List Int} {cdv : Value} {s0 : Shared} {H0 : Hp} {Z : Tx}
variable {fBe fIS : Addr} {dBe dIS : FuncData}
theorem in_50 (hr : Room 9 (LX P w K mg base fa cdv s0 H0).A) (C1 : Cal P w K mg base "_law_bent" ["_law_box_here", "_law_store"] sLBent 3 (spBent K) fBe dBe) : Ti (LX P w K mg base fa cdv s0 H0) ((bodyOf (inS 5)).getD 0 (.Pass ⟨0, 0, 0, 0⟩)) (B4 K Z a ns) (B50 K Z a ns) := by
  refine ⟨_, (ps_asg (pe_call C1.ok (hr.mono (by decide)) (by rfl) C1.ns.mg C1.ns.fn.kp C1.ns.bd .nil pass0 (pa_cons (pv 2) (pa_cons (pv 12) pa_nil))) (pg_seq rfl (pgs_cons (pg_name (i := 5) scLaw.nd rfl (.inl rfl)) (pgs_cons (pg_name (i := 6) scLaw.nd rfl (.inl rfl)) pgs_nil)))), fun i D σ H hA kk => ?_⟩
  obtain ⟨p, k, f, v, la, L, st, u, c⟩ := hA
  refine ⟨.ref p, c.v2, _, c.v12, k, f, v, la, L, p, u, rfl, c.box, c.sto.now c.ok, c.n, fun r x due H' xb h1 h2 => ⟨r, _, rfl, .inl (SqT.of h1), rfl, _, _, rfl, _, _, rfl, rfl, kk _ _ ?_⟩⟩
  exact ⟨p, k, f, v, la, L, st, u, x, due, ((c.exB xb).set (by omega)).set (by omega), sl_ne (sl_eq (by rw [c.len]; decide)) (by decide), sl_eq (by rw [List.length_set, c.len]; decide), h2⟩
theorem in_51 (hr : Room 9 (LX P w K mg base fa cdv s0 H0).A) (G : Mg mg) (C1 : Cal P w K mg base "is_store" ["keep", "value"] sIsStore 7 (spIsStoreX K Z) fIS dIS) (W1 : KwOk K dIS ["keep", "value"] ["value", "keep"] (perm [1, 0]) (perm [1, 0])) : Ti (LX P w K mg base fa cdv s0 H0) ((bodyOf (inS 5)).getD 1 (.Pass ⟨0, 0, 0, 0⟩)) (B50 K Z a ns) (B4 K Z a ns) := by
  have hu : (LX P w K mg base fa cdv s0 H0).A.units + 64 < cLine := hr.units
  have hg : (LX P w K mg base fa cdv s0 H0).A.guards = some [] := rfl
  refine ⟨_, (ps_if (pt_cmpR op_ne (pe_callB (cr_reprS hu hg) (by rfl) G.repr boot_repr (pa_cons (pe_lst (pa_cons (pe_call C1.ok (hr.mono (by decide)) (by rfl) C1.ns.mg C1.ns.fn.kp C1.ns.bd .nil pass0 (pa_cons (pv 8) (pa_cons (pv 5) pa_nil))) (pa_cons (pe_callW C1.ok (hr.mono (by decide)) (by rfl) C1.ns.mg C1.ns.fn.kp W1 pass0 (pk_cons (pv 5) (pk_cons (pv 8) pk_nil))) pa_nil))) pa_nil)) (pe_callB (cr_reprS hu hg) (by rfl) G.repr boot_repr (pa_cons (pe_lst (pa_cons (pv 6) (pa_cons (pv 6) pa_nil))) pa_nil)) (nomark _)) (pss_one (ps_ret pe_bl)) pss_nil), fun i D σ H hA kk => ?_⟩
  obtain ⟨p, k, f, v, la, L, st, u, x, due, c, h5, h6, hx⟩ := hA
  have k2 := c.n.k2
  have k4 := c.n.k4
  refine ⟨_, c.v8, _, h5, k, x, due, rfl, k2, by omega, hx, c.ok, fun H1 g1 => ?_⟩
  have c1 := c.go0 g1
  refine ⟨_, h5, _, c.v8, k, x, due, rfl, k2, by omega, hx.gs g1, c1.ok, fun H2 g2 => ⟨by show 2 ≤ sizeLine; decide, fun l hl => ?_⟩⟩
  have c2 := c1.go0 g2
  have x3 := Ex.new hl (o := .lst [V.bl due, .bl due])
  refine ⟨_, _, rfl, shown_bools upd_same, _, h6, _, h6, by show 2 ≤ sizeLine; decide, fun l2 hl2 => ⟨_, _, rfl, shown_bools upd_same, ?_⟩⟩
  have x4 := Ex.new hl2 (o := .lst [V.bl due, .bl due])
  refine rv_neS _ (Ex.refl _) _ fun H5 e5 => ⟨false, rfl, ite2 (fun z => nomatch z) fun _ => kk _ _ ⟨p, k, f, v, la, L, st, u, c2.ex (x3.trans (x4.trans e5))⟩⟩
theorem in_5 (hr : Room 9 (LX P w K mg base fa cdv s0 H0).A) (G : Mg mg) (hb : Tis (LX P w K mg base fa cdv s0 H0) (bodyOf (inS 5)) (B4 K Z a ns) (B4 K Z a ns)) : Ti (LX P w K mg base fa cdv s0 H0) (inS 5) (B4 K Z a ns) (B4 K Z a ns) := by
  obtain ⟨tb, hb1, hb2⟩ := hb
  refine ⟨_, (ps_for PassesOwn.never rfl (pi_range1 (by rfl) G.range (pa_cons pe_int pa_nil)) (pg_name (i := 4) scLaw.nd rfl (.inl rfl)) hb1), fun i D σ H hA kk => ?_⟩
  refine ⟨6, rfl, by decide, by decide, for_range (lo := 0) (n := (6 : Int).toNat) (fun m σ' H' => B4 K Z a ns m σ' H') hA (fun m σ' H' hm hP => ?_) fun σ' H' hP => kk _ _ hP⟩
  refine hb2 m _ _ _ ?_ fun σ'' H'' h => h
  obtain ⟨p, k, f, v, la, L, st, u, c⟩ := hP
  exact ⟨p, k, f, v, la, L, st, u, c.set (by omega)⟩
end
end K13
set_option Elab.async false
set_option linter.all false
set_option maxRecDepth 100000
set_option maxHeartbeats 2000000
namespace K13
open PySem PySem.Spec PyProof.Rows L2 GxR Pu Evl Sh Sv
/-- a flat value, how it is shown -/
def Sn (x : V) : Prop := flatV x = true ∧ ∃ s, PyData.strOk s = true ∧ shownS x = some s ∧ okS x = true
theorem sn_non : Sn .non := ⟨rfl, _, ok_str _, rfl, rfl⟩
theorem sn_bl : Sn (.bl true) := ⟨rfl, _, ok_str _, rfl, rfl⟩
theorem sn_int {i : Int} (h : i.natAbs ≤ 1000000000) : Sn (.int i) := ⟨rfl, _, ok_str _, rfl, decide_eq_true h⟩
theorem sn_0 : Sn (.str "0") := ⟨rfl, reprText "0", by decide +kernel, rfl, by decide +kernel⟩
section
variable {K : PySem.W.Frag} {Z : Tx} {σ : L2.St} {H : Hp} {Cr : Addr} {D : Ends}
/-- a lambda that is refused at x -/
theorem q_ref {t : XK → TE} {j : Nat} {x : V} {tu : TS} (hz : Z.Ok H) (np : Z.p ∉ Z.ts) (hj : σ[j]? = some (some x)) (sn : Sn x) (h : ∀ (E : XK) (Q : VK) H1, Go Z [] H H1 → (∀ d H', Go Z [] H1 H' → H' d = none → E (.ref Cr) (some d) (upd H' d (.xd [("at", x)]))) → t E σ H1 Q) (k : ∀ H', Go Z [] H H' → D.nx σ H') :
    tIfS (tTest (tOp (rNeD K) (tLm Z.p Z.q (TRef K Cr) t) (tTup (tCons (tC (.str "refused")) (tCons (tCB (rReprS K) (tCons (tVar j) tNil)) (tCons (tC (.bl true)) tNil)))))) tu tNext D σ H := by
  obtain ⟨fx, s, so, s1, s2⟩ := sn
  have ks : ∀ H', Shown K H' x s := fun H' => .inl ⟨s1, s2⟩
  refine ⟨hz.lm, fun H1 ex t1 => ?_⟩
  have g0 : Go Z [] H H1 := Go.lam hz np ex t1
  refine h _ _ H1 g0 fun d H' g hd => ?_
  have x1 := Ex.new hd (o := .xd [("at", x)])
  have g1 : Go Z [] H (upd H' d (.xd [("at", x)])) := (g0.trans g).then x1
  refine ⟨d, x, s, rfl, rfl, upd_same, ks _, fun t ht => ?_⟩
  have x2 := Ex.new ht (o := .tup [V.str "refused", .str s, .bl true])
  have g2 := g1.then x2
  refine ⟨x, hj, x, s, rfl, ks _, by show 3 ≤ sizeLine; decide, fun t2 ht2 => ?_⟩
  have x3 := Ex.new ht2 (o := .tup [V.str "refused", .str s, .bl true])
  have g3 := g2.then x3
  have dp : ∀ {H9 : Hp} {b : Addr}, H9 b = some (.tup [V.str "refused", .str s, .bl true]) → Dp K H9 (.ref b) (dRef s) := fun h => .tup (SqT.of h) (.cons (.str _) (.cons (.str _) (.cons (.bl _) .nil)))
  exact ⟨dRef s, dRef s, dp (x3 _ _ upd_same), dp upd_same, dRef_shaped so, dRef_shaped so, false, by rw [dRef_eqv so]; rfl, ite2 (fun z => nomatch z) fun _ => k _ g3⟩
theorem el_if {t : TT} {ta tb : TE} {b : Bool} {xs : List V} (h : EvT t σ H b) (h1 : b = true → EvL ta σ H xs) (h2 : b = false → EvL tb σ H xs) : EvL (tIf t ta tb) σ H xs := fun H1 e Q q => h H1 e _ fun H2 e2 => by
  cases b with
  | true => exact h1 rfl H2 (e.trans e2) _ fun p H3 hp e3 h3 => q p H3 (ex_fresh e2 hp) (e2.trans e3) h3
  | false => exact h2 rfl H2 (e.trans e2) _ fun p H3 hp e3 h3 => q p H3 (ex_fresh e2 hp) (e2.trans e3) h3
end
/-- all that a lambda of the law needs -/
structure Rf (K : PySem.W.Frag) (mg : Str → Option Value) (base : Heap) (Z : Tx) (X : Cx) (Cr CF fI fRf cl : Addr) (dRf : FuncData) : Prop where
  fr : Fun K "_law_refused" "_law_refused" sLRefused fRf dRf
  mR : mg "_law_refused" = some (.ref fRf)
  bR : Binds K dRf ["_law_ask"] []
  rc : RefC K Cr fI
  mC : mg "Refused" = some (.ref Cr)
  mF : mg "FarError" = some (.ref CF)
  kit : PySem.W.kitOne K (.ref Cr) (.ref CF) = some true
  exm : PySem.W.exmOne K (.ref Cr) (.ref Cr) = some true
  TL : LamX.TabB base mg cl Z.p
  np : Z.p ∉ Z.ts
  hq : X.env.qual ++ "<lambda>" = Z.q
def B6 (K : PySem.W.Frag) (Z : Tx) (a : Addr) (ns : List Int) (_ : Nat) (σ : L2.St) (H : Hp) : Prop := ∃ p k f w la L st u x, C K Z a ns p k f w la L st u σ H ∧ σ[10]? = some (some x) ∧ Sn x ∧ badSt la x
def B8 (K : PySem.W.Frag) (Z : Tx) (a : Addr) (ns : List Int) (_ : Nat) (σ : L2.St) (H : Hp) : Prop := ∃ p k f w la L st u x, C K Z a ns p k f w la L st u σ H ∧ σ[7]? = some (some x) ∧ Sn x ∧ K13X.readB x = false
def B10 (K : PySem.W.Frag) (Z : Tx) (a : Addr) (ns : List Int) (_ : Nat) (σ : L2.St) (H : Hp) : Prop := ∃ p k f w la L st u x, C K Z a ns p k f w la L st u σ H ∧ σ[9]? = some (some x) ∧ Sn x ∧ keepB x = false
def B14 (K : PySem.W.Frag) (Z : Tx) (a : Addr) (ns : List Int) (_ : Nat) (σ : L2.St) (H : Hp) : Prop := ∃ p k f w la L st u x, C K Z a ns p k f w la L st u σ H ∧ σ[10]? = some (some x) ∧ Sn x ∧ isNum x = false
def B16 (K : PySem.W.Frag) (Z : Tx) (a : Addr) (ns : List Int) (_ : Nat) (σ : L2.St) (H : Hp) : Prop := ∃ p k f w la L st u x, C K Z a ns p k f w la L st u σ H ∧ σ[10]? = some (some x) ∧ Sn x ∧ badRow w.length x
section
variable {P : Program} {w : World} {K : PySem.W.Frag} {mg : Str → Option Value} {base : Heap} {a fa cl Cr CF fI fRf : Addr} {ns : List Int} {s0 : Shared} {H0 : Hp} {Z : Tx}
variable {f1 : Addr} {d1 dRf : FuncData}
theorem in_7 (hr : Room 10 (LX P w K mg base fa (.ref cl) s0 H0).A) (G : Mg mg) (C1 : CalX P w K mg base "lay" ["store", "keep", "stamp", "value"] sLay 4 (spBad Z Cr pBadLay) f1 d1) (R : Rf K mg base Z (LX P w K mg base fa (.ref cl) s0 H0) Cr CF fI fRf cl dRf) : Ti (LX P w K mg base fa (.ref cl) s0 H0) (inS 7) (B6 K Z a ns) (B4 K Z a ns) := by
  have hu : (LX P w K mg base fa (.ref cl) s0 H0).A.units + 64 < cLine := (hr.mono (show 9 ≤ 10 by decide)).units
  have hun : (LX P w K mg base fa (.ref cl) s0 H0).A.units + 200 < cLine := by have := hr.un; omega
  have hg : (LX P w K mg base fa (.ref cl) s0 H0).A.guards = some [] := rfl
  refine ⟨_, (ps_if (pt_cmpR (op_neD hu) (pe_lm (k := 4) (t := fun E => tCall (spBad Z Cr pBadLay) [] E (tCons (tVar 12) (tCons (tVar 8) (tCons (tVar 10) (tCons (tC .non) tNil))))) R.fr (by rfl) R.mR R.bR scRefused rfl (.inl rfl) (fun cdv => ok_refused R.rc G rfl hun R.mC R.mF R.kit R.exm) R.TL rfl R.hq (hr.mono (by decide)) (LamX.lamS_by (by (show LamX.lamSB (defScope sLaw) _ = true); decide +kernel)) (by rfl) (fun _ _ _ _ _ => by rfl) (fun A outer s H E f c' hr' => pe_call C1.ok hr' (by rfl) C1.ns.mg C1.ns.fn.kp C1.ns.bd .nil (lam_pass (X := LX P w K mg base fa (.ref cl) s0 H0)) (pa_cons (pv 12) (pa_cons (pv 8) (pa_cons (pv 10) (pa_cons pe_non pa_nil)))))) (pe_tup (pa_cons pe_str (pa_cons (pe_callB (cr_reprS hu hg) (by rfl) G.repr boot_repr (pa_cons (pv 10) pa_nil)) (pa_cons pe_bl pa_nil)))) (nomark _)) (pss_one (ps_ret pe_bl)) pss_nil), fun i D σ H hA kk => ?_⟩
  obtain ⟨p, k, f, v, la, L, st, u, x, c, h10, sn, bx⟩ := hA
  have k4 := c.n.k4
  exact q_ref c.ok R.np h10 sn (fun E Q H1 g hE => ⟨_, c.v12, _, c.v8, _, h10, x, .inr (.inl ⟨k, _, la, L, u, .non, rfl, c.n.k2, by omega, ((c.go0 g).sto.now g.ok).h, sn.1, bx⟩), g.ok, hE⟩) fun H' g => kk _ _ ⟨p, k, f, v, la, L, st, u, c.go0 g⟩
theorem in_9 (hr : Room 10 (LX P w K mg base fa (.ref cl) s0 H0).A) (G : Mg mg) (C1 : CalX P w K mg base "lay" ["store", "keep", "stamp", "value"] sLay 4 (spBad Z Cr pBadLay) f1 d1) (R : Rf K mg base Z (LX P w K mg base fa (.ref cl) s0 H0) Cr CF fI fRf cl dRf) : Ti (LX P w K mg base fa (.ref cl) s0 H0) (inS 9) (B8 K Z a ns) (B4 K Z a ns) := by
  have hu : (LX P w K mg base fa (.ref cl) s0 H0).A.units + 64 < cLine := (hr.mono (show 9 ≤ 10 by decide)).units
  have hun : (LX P w K mg base fa (.ref cl) s0 H0).A.units + 200 < cLine := by have := hr.un; omega
  have hg : (LX P w K mg base fa (.ref cl) s0 H0).A.guards = some [] := rfl
  refine ⟨_, (ps_if (pt_cmpR (op_neD hu) (pe_lm (k := 4) (t := fun E => tCall (spBad Z Cr pBadLay) [] E (tCons (tVar 12) (tCons (tVar 8) (tCons (tOp (rI0 fun i j => .int (i + j)) (tVar 11) (tC (.int 9))) (tCons (tVar 7) tNil))))) R.fr (by rfl) R.mR R.bR scRefused rfl (.inl rfl) (fun cdv => ok_refused R.rc G rfl hun R.mC R.mF R.kit R.exm) R.TL rfl R.hq (hr.mono (by decide)) (LamX.lamS_by (by (show LamX.lamSB (defScope sLaw) _ = true); decide +kernel)) (by rfl) (fun _ _ _ _ _ => by rfl) (fun A outer s H E f c' hr' => pe_call C1.ok hr' (by rfl) C1.ns.mg C1.ns.fn.kp C1.ns.bd .nil (lam_pass (X := LX P w K mg base fa (.ref cl) s0 H0)) (pa_cons (pv 12) (pa_cons (pv 8) (pa_cons (pe_op op_add (pv 11) pe_int) (pa_cons (pv 7) pa_nil)))))) (pe_tup (pa_cons pe_str (pa_cons (pe_callB (cr_reprS hu hg) (by rfl) G.repr boot_repr (pa_cons (pv 7) pa_nil)) (pa_cons pe_bl pa_nil)))) (nomark _)) (pss_one (ps_ret pe_bl)) pss_nil), fun i D σ H hA kk => ?_⟩
  obtain ⟨p, k, f, v, la, L, st, u, x, c, h7, sn, bx⟩ := hA
  have k4 := c.n.k4
  have est : (st : Int) + 9 = ((st + 9 : Nat) : Int) := by omega
  exact q_ref c.ok R.np h7 sn (fun E Q H1 g hE => ⟨_, c.v12, _, c.v8, _, c.v11, _, _, rfl, rfl, _, h7, x, .inr (.inr ⟨k, _, st + 9, la, L, u, by rw [← est]; rfl, c.n.k2, by omega, ((c.go0 g).sto.now g.ok).h, fun m hm => by have := c.hst m hm; omega, sn.1, bx⟩), g.ok, hE⟩) fun H' g => kk _ _ ⟨p, k, f, v, la, L, st, u, c.go0 g⟩
theorem in_11 (hr : Room 10 (LX P w K mg base fa (.ref cl) s0 H0).A) (G : Mg mg) (C1 : CalX P w K mg base "lay" ["store", "keep", "stamp", "value"] sLay 4 (spBad Z Cr pBadLay) f1 d1) (R : Rf K mg base Z (LX P w K mg base fa (.ref cl) s0 H0) Cr CF fI fRf cl dRf) : Ti (LX P w K mg base fa (.ref cl) s0 H0) (inS 11) (B10 K Z a ns) (B10 K Z a ns) := by
  have hu : (LX P w K mg base fa (.ref cl) s0 H0).A.units + 64 < cLine := (hr.mono (show 9 ≤ 10 by decide)).units
  have hun : (LX P w K mg base fa (.ref cl) s0 H0).A.units + 200 < cLine := by have := hr.un; omega
  have hg : (LX P w K mg base fa (.ref cl) s0 H0).A.guards = some [] := rfl
  refine ⟨_, (ps_if (pt_cmpR (op_neD hu) (pe_lm (k := 4) (t := fun E => tCall (spBad Z Cr pBadLay) [] E (tCons (tVar 12) (tCons (tVar 9) (tCons (tC .non) (tCons (tC .non) tNil))))) R.fr (by rfl) R.mR R.bR scRefused rfl (.inl rfl) (fun cdv => ok_refused R.rc G rfl hun R.mC R.mF R.kit R.exm) R.TL rfl R.hq (hr.mono (by decide)) (LamX.lamS_by (by (show LamX.lamSB (defScope sLaw) _ = true); decide +kernel)) (by rfl) (fun _ _ _ _ _ => by rfl) (fun A outer s H E f c' hr' => pe_call C1.ok hr' (by rfl) C1.ns.mg C1.ns.fn.kp C1.ns.bd .nil (lam_pass (X := LX P w K mg base fa (.ref cl) s0 H0)) (pa_cons (pv 12) (pa_cons (pv 9) (pa_cons pe_non (pa_cons pe_non pa_nil)))))) (pe_tup (pa_cons pe_str (pa_cons (pe_callB (cr_reprS hu hg) (by rfl) G.repr boot_repr (pa_cons (pv 9) pa_nil)) (pa_cons pe_bl pa_nil)))) (nomark _)) (pss_one (ps_ret pe_bl)) pss_nil), fun i D σ H hA kk => ?_⟩
  obtain ⟨p, k, f, v, la, L, st, u, x, c, h9, sn, bx⟩ := hA
  exact q_ref c.ok R.np h9 sn (fun E Q H1 g hE => ⟨_, c.v12, _, h9, x, .inl ⟨u, .non, .non, rfl, sn.1, bx⟩, g.ok, hE⟩) fun H' g => kk _ _ ⟨p, k, f, v, la, L, st, u, x, c.go0 g, h9, sn, bx⟩
theorem in_12 (hr : Room 10 (LX P w K mg base fa (.ref cl) s0 H0).A) (G : Mg mg) (C1 : CalX P w K mg base "is_store" ["keep", "value"] sIsStore 4 (spBad Z Cr pBad2) f1 d1) (R : Rf K mg base Z (LX P w K mg base fa (.ref cl) s0 H0) Cr CF fI fRf cl dRf) : Ti (LX P w K mg base fa (.ref cl) s0 H0) (inS 12) (B10 K Z a ns) (B10 K Z a ns) := by
  have hu : (LX P w K mg base fa (.ref cl) s0 H0).A.units + 64 < cLine := (hr.mono (show 9 ≤ 10 by decide)).units
  have hun : (LX P w K mg base fa (.ref cl) s0 H0).A.units + 200 < cLine := by have := hr.un; omega
  have hg : (LX P w K mg base fa (.ref cl) s0 H0).A.guards = some [] := rfl
  refine ⟨_, (ps_if (pt_cmpR (op_neD hu) (pe_lm (k := 4) (t := fun E => tCall (spBad Z Cr pBad2) [] E (tCons (tVar 9) (tCons (tVar 12) tNil))) R.fr (by rfl) R.mR R.bR scRefused rfl (.inl rfl) (fun cdv => ok_refused R.rc G rfl hun R.mC R.mF R.kit R.exm) R.TL rfl R.hq (hr.mono (by decide)) (LamX.lamS_by (by (show LamX.lamSB (defScope sLaw) _ = true); decide +kernel)) (by rfl) (fun _ _ _ _ _ => by rfl) (fun A outer s H E f c' hr' => pe_call C1.ok hr' (by rfl) C1.ns.mg C1.ns.fn.kp C1.ns.bd .nil (lam_pass (X := LX P w K mg base fa (.ref cl) s0 H0)) (pa_cons (pv 9) (pa_cons (pv 12) pa_nil)))) (pe_tup (pa_cons pe_str (pa_cons (pe_callB (cr_reprS hu hg) (by rfl) G.repr boot_repr (pa_cons (pv 9) pa_nil)) (pa_cons pe_bl pa_nil)))) (nomark _)) (pss_one (ps_ret pe_bl)) pss_nil), fun i D σ H hA kk => ?_⟩
  obtain ⟨p, k, f, v, la, L, st, u, x, c, h9, sn, bx⟩ := hA
  exact q_ref c.ok R.np h9 sn (fun E Q H1 g hE => ⟨_, h9, _, c.v12, x, ⟨u, rfl, sn.1, bx⟩, g.ok, hE⟩) fun H' g => kk _ _ ⟨p, k, f, v, la, L, st, u, x, c.go0 g, h9, sn, bx⟩
theorem in_13 (hr : Room 10 (LX P w K mg base fa (.ref cl) s0 H0).A) (G : Mg mg) (C1 : CalX P w K mg base "laid_all" ["keep", "rows"] sLaidAll 4 (spBad Z Cr pBad2) f1 d1) (R : Rf K mg base Z (LX P w K mg base fa (.ref cl) s0 H0) Cr CF fI fRf cl dRf) : Ti (LX P w K mg base fa (.ref cl) s0 H0) (inS 13) (B10 K Z a ns) (B4 K Z a ns) := by
  have hu : (LX P w K mg base fa (.ref cl) s0 H0).A.units + 64 < cLine := (hr.mono (show 9 ≤ 10 by decide)).units
  have hun : (LX P w K mg base fa (.ref cl) s0 H0).A.units + 200 < cLine := by have := hr.un; omega
  have hg : (LX P w K mg base fa (.ref cl) s0 H0).A.guards = some [] := rfl
  refine ⟨_, (ps_if (pt_cmpR (op_neD hu) (pe_lm (k := 4) (t := fun E => tCall (spBad Z Cr pBad2) [] E (tCons (tVar 9) (tCons (tLst tNil) tNil))) R.fr (by rfl) R.mR R.bR scRefused rfl (.inl rfl) (fun cdv => ok_refused R.rc G rfl hun R.mC R.mF R.kit R.exm) R.TL rfl R.hq (hr.mono (by decide)) (LamX.lamS_by (by (show LamX.lamSB (defScope sLaw) _ = true); decide +kernel)) (by rfl) (fun _ _ _ _ _ => by rfl) (fun A outer s H E f c' hr' => pe_call C1.ok hr' (by rfl) C1.ns.mg C1.ns.fn.kp C1.ns.bd .nil (lam_pass (X := LX P w K mg base fa (.ref cl) s0 H0)) (pa_cons (pv 9) (pa_cons (pe_lst pa_nil) pa_nil)))) (pe_tup (pa_cons pe_str (pa_cons (pe_callB (cr_reprS hu hg) (by rfl) G.repr boot_repr (pa_cons (pv 9) pa_nil)) (pa_cons pe_bl pa_nil)))) (nomark _)) (pss_one (ps_ret pe_bl)) pss_nil), fun i D σ H hA kk => ?_⟩
  obtain ⟨p, k, f, v, la, L, st, u, x, c, h9, sn, bx⟩ := hA
  exact q_ref c.ok R.np h9 sn (fun E Q H1 g hE => ⟨_, h9, by show 0 ≤ sizeLine; decide, fun l hl => ⟨x, ⟨.ref l, rfl, sn.1, bx⟩, g.ok.ex (Ex.new hl), fun d H' g' hd => hE d H' ((Go.new g.ok hl).trans g') hd⟩⟩) fun H' g => kk _ _ ⟨p, k, f, v, la, L, st, u, c.go0 g⟩
theorem in_15 (hr : Room 10 (LX P w K mg base fa (.ref cl) s0 H0).A) (G : Mg mg) (C1 : CalX P w K mg base "let_go" ["store", "below"] sLetGo 4 (spBad Z Cr pBadGo) f1 d1) (R : Rf K mg base Z (LX P w K mg base fa (.ref cl) s0 H0) Cr CF fI fRf cl dRf) : Ti (LX P w K mg base fa (.ref cl) s0 H0) (inS 15) (B14 K Z a ns) (B4 K Z a ns) := by
  have hu : (LX P w K mg base fa (.ref cl) s0 H0).A.units + 64 < cLine := (hr.mono (show 9 ≤ 10 by decide)).units
  have hun : (LX P w K mg base fa (.ref cl) s0 H0).A.units + 200 < cLine := by have := hr.un; omega
  have hg : (LX P w K mg base fa (.ref cl) s0 H0).A.guards = some [] := rfl
  refine ⟨_, (ps_if (pt_cmpR (op_neD hu) (pe_lm (k := 4) (t := fun E => tCall (spBad Z Cr pBadGo) [] E (tCons (tVar 12) (tCons (tVar 10) tNil))) R.fr (by rfl) R.mR R.bR scRefused rfl (.inl rfl) (fun cdv => ok_refused R.rc G rfl hun R.mC R.mF R.kit R.exm) R.TL rfl R.hq (hr.mono (by decide)) (LamX.lamS_by (by (show LamX.lamSB (defScope sLaw) _ = true); decide +kernel)) (by rfl) (fun _ _ _ _ _ => by rfl) (fun A outer s H E f c' hr' => pe_call C1.ok hr' (by rfl) C1.ns.mg C1.ns.fn.kp C1.ns.bd .nil (lam_pass (X := LX P w K mg base fa (.ref cl) s0 H0)) (pa_cons (pv 12) (pa_cons (pv 10) pa_nil)))) (pe_tup (pa_cons pe_str (pa_cons (pe_callB (cr_reprS hu hg) (by rfl) G.repr boot_repr (pa_cons (pv 10) pa_nil)) (pa_cons pe_bl pa_nil)))) (nomark _)) (pss_one (ps_ret pe_bl)) pss_nil), fun i D σ H hA kk => ?_⟩
  obtain ⟨p, k, f, v, la, L, st, u, x, c, h10, sn, bx⟩ := hA
  exact q_ref c.ok R.np h10 sn (fun E Q H1 g hE => ⟨_, c.v12, _, h10, x, ⟨u, rfl, sn.1, bx⟩, g.ok, hE⟩) fun H' g => kk _ _ ⟨p, k, f, v, la, L, st, u, c.go0 g⟩
theorem in_17 (hr : Room 10 (LX P w K mg base fa (.ref cl) s0 H0).A) (G : Mg mg) (C1 : CalX P w K mg base "span_with" ["store", "row"] sSpanWith 3 (spBad Z Cr pBadRow) f1 d1) (R : Rf K mg base Z (LX P w K mg base fa (.ref cl) s0 H0) Cr CF fI fRf cl dRf) : Ti (LX P w K mg base fa (.ref cl) s0 H0) (inS 17) (B16 K Z a ns) (fun i => A0 K Z a ns (i + 1)) := by
  have hu : (LX P w K mg base fa (.ref cl) s0 H0).A.units + 64 < cLine := (hr.mono (show 9 ≤ 10 by decide)).units
  have hun : (LX P w K mg base fa (.ref cl) s0 H0).A.units + 200 < cLine := by have := hr.un; omega
  have hg : (LX P w K mg base fa (.ref cl) s0 H0).A.guards = some [] := rfl
  refine ⟨_, (ps_if (pt_cmpR (op_neD hu) (pe_lm (k := 4) (t := fun E => tCall (spBad Z Cr pBadRow) [] E (tCons (tVar 12) (tCons (tVar 10) tNil))) R.fr (by rfl) R.mR R.bR scRefused rfl (.inl rfl) (fun cdv => ok_refused R.rc G rfl hun R.mC R.mF R.kit R.exm) R.TL rfl R.hq (hr.mono (by decide)) (LamX.lamS_by (by (show LamX.lamSB (defScope sLaw) _ = true); decide +kernel)) (by rfl) (fun _ _ _ _ _ => by rfl) (fun A outer s H E f c' hr' => pe_call C1.ok (hr'.mono (by decide)) (by rfl) C1.ns.mg C1.ns.fn.kp C1.ns.bd .nil (lam_pass (X := LX P w K mg base fa (.ref cl) s0 H0)) (pa_cons (pv 12) (pa_cons (pv 10) pa_nil)))) (pe_tup (pa_cons pe_str (pa_cons (pe_callB (cr_reprS hu hg) (by rfl) G.repr boot_repr (pa_cons (pv 10) pa_nil)) (pa_cons pe_bl pa_nil)))) (nomark _)) (pss_one (ps_ret pe_bl)) pss_nil), fun i D σ H hA kk => ?_⟩
  obtain ⟨p, k, f, v, la, L, st, u, x, c, h10, sn, bx⟩ := hA
  exact q_ref c.ok R.np h10 sn (fun E Q H1 g hE => ⟨_, c.v12, _, h10, x, ⟨_, la, L, u, rfl, ((c.go0 g).sto.now g.ok).h, sn.1, bx⟩, g.ok, hE⟩) fun H' g => kk _ _ (have c' := c.go0 g; ⟨p, c'.len, c'.v0, c'.ok, c'.scr⟩)
end
end K13
set_option Elab.async false
set_option linter.all false
set_option maxRecDepth 100000
set_option maxHeartbeats 2000000
namespace K13
open PySem PySem.Spec PyProof.Rows L2 GxR Pu Evl Sh Sv
theorem evn {te : TE} {σ : L2.St} {H : Hp} {x : V} (h : Ev te σ H x) : Ev (tNotN te) σ H (.bl (!decide (x = .non))) := fun H1 e Q q => h H1 e _ fun H2 e2 => q H2 e2
def late : Option Nat → List V
  | none => []
  | some m => if decide ((0 : Int) < (m : Int)) = true then [.int (m : Int), .int ((m : Int) - 1)] else []
section
variable {P : Program} {w : World} {K : PySem.W.Frag} {mg : Str → Option Value} {base : Heap} {a fa : Addr} {ns : List Int} {cdv : Value} {s0 : Shared} {H0 : Hp} {Z : Tx}
variable {fPk fLa fES fIS U : Addr} {dPk dLa dES dIS : FuncData}
theorem in_6 (hr : Room 9 (LX P w K mg base fa cdv s0 H0).A) (C1 : Cal P w K mg base "_law_pick" ["_law_box_here", "_law_some"] sPick 2 spPick fPk dPk) : Ti (LX P w K mg base fa cdv s0 H0) (inS 6) (B4 K Z a ns) (B6 K Z a ns) := by
  refine ⟨_, (ps_set (i := 10) scLaw.nd rfl (.inr rfl) (pe_call C1.ok (hr.mono (by decide)) (by rfl) C1.ns.mg C1.ns.fn.kp C1.ns.bd .nil pass0 (pa_cons (pv 2) (pa_cons (pe_op op_cat (pe_lst (pa_cons pe_non (pa_cons (pe_op op_sub pe_int pe_int) (pa_cons pe_bl (pa_cons pe_str pa_nil))))) (pe_ifExp (PW.pt (pw_and (pt_cmp (pc_notN (pe_ix ix_seq (pv 12) pe_int (fun _ _ => rfl)))) (pw_and1 (pt_cmpR op_gt (pe_ix ix_seq (pv 12) pe_int (fun _ _ => rfl)) pe_int (nomark _))))) (pe_lst (pa_cons (pe_ix ix_seq (pv 12) pe_int (fun _ _ => rfl)) (pa_cons (pe_op op_sub (pe_ix ix_seq (pv 12) pe_int (fun _ _ => rfl)) pe_int) pa_nil))) (pe_lst pa_nil))) pa_nil)))), fun i D σ H hA kk => ?_⟩
  obtain ⟨p, k, f, v, la, L, st, u, c⟩ := hA
  obtain ⟨b, e, xs, rfl, h1, h2, h3⟩ := c.sto.now c.ok
  have ix : Ev (tOp (rIx K) (tVar 12) (tC (.int 1))) σ H (nonV la) := ev_op (ev_var c.v12) ev_c (rv_ixQ (.inl (SqT.of h1)) (atI_nat (j := 1) rfl))
  have ef : EvL (tIf (tAnd (tTest (tNotN (tOp (rIx K) (tVar 12) (tC (.int 1))))) (tTest (tOp (rI0 fun i j => .bl (decide (j < i))) (tOp (rIx K) (tVar 12) (tC (.int 1))) (tC (.int 0))))) (tLst (tCons (tOp (rIx K) (tVar 12) (tC (.int 1))) (tCons (tOp (rI0 fun i j => .int (i - j)) (tOp (rIx K) (tVar 12) (tC (.int 1))) (tC (.int 1))) tNil))) (tLst tNil)) σ H (late la) := by
    cases la with
    | none => exact el_if (b := false) (et_and (a := false) (b := false) (et_test (evn ix)) fun z => nomatch z) (fun z => nomatch z) fun _ => el_lst ez (by decide)
    | some m =>
      refine el_if (b := true && decide ((0 : Int) < (m : Int))) (et_and (a := true) (et_test (evn ix)) fun _ => et_test (ev_op ix ev_c rv_I0)) (fun z => ?_) fun z => ?_
      · rw [show late (some m) = [.int (m : Int), .int ((m : Int) - 1)] from if_pos z]
        exact el_lst (ec ix (ec (ev_op ix ev_c rv_I0) ez)) (by show 2 ≤ 100000; decide)
      · rw [show late (some m) = [] from if_neg (by rw [Bool.true_and] at z; rw [z]; decide)]
        exact el_lst ez (by decide)
  have ll : (late la).length ≤ 2 := by
    cases la with
    | none => exact Nat.zero_le _
    | some m =>
      show (if decide ((0 : Int) < (m : Int)) = true then [V.int (m : Int), .int ((m : Int) - 1)] else []).length ≤ 2
      split <;> simp
  refine ⟨.ref p, c.v2, ?_⟩
  refine (el_cat2 (el_lst (vs := [V.non, .int (0 - 1), .bl true, .str "0"]) (ec ev_c (ec (ev_op ev_c ev_c rv_I0) (ec ev_c (ec ev_c ez)))) (by decide)) ef (by show 4 + _ ≤ 100000; omega)) _ (Ex.refl _) _ fun l H2 hl e2 h2 => ⟨p, l, _, rfl, c.box.ex e2, h2, c.box.ne' hl, by show 1 ≤ ([V.non, .int (0 - 1), .bl true, .str "0"] ++ late la).length; rw [List.length_append]; show 1 ≤ 4 + _; omega, by rw [List.length_append]; show 4 + _ ≤ 1000; omega, fun x H' hx xb => kk _ _ ⟨p, k, f, v, la, L, st, _, x, ((c.ex e2).exB xb).set (by omega), sl_eq (by rw [c.len]; decide), ?_⟩⟩
  rcases List.mem_append.mp hx with h | h
  · simp only [List.mem_cons, List.not_mem_nil, or_false] at h
    rcases h with rfl | rfl | rfl | rfl
    · exact ⟨sn_non, trivial⟩
    · exact ⟨sn_int (by decide), .inl (by decide)⟩
    · exact ⟨sn_bl, trivial⟩
    · exact ⟨sn_0, trivial⟩
  · cases la with
    | none => cases h
    | some m =>
      have hm := c.hst m rfl
      have s9 := c.st9
      change x ∈ (if decide ((0 : Int) < (m : Int)) = true then [V.int (m : Int), .int ((m : Int) - 1)] else []) at h
      split at h
      · rename_i z
        have z := of_decide_eq_true z
        simp only [List.mem_cons, List.not_mem_nil, or_false] at h
        rcases h with rfl | rfl
        · exact ⟨sn_int (by omega), .inr ⟨m, rfl, Int.le_refl _⟩⟩
        · exact ⟨sn_int (by omega), .inr ⟨m, rfl, by omega⟩⟩
      · cases h
theorem in_8 (hr : Room 9 (LX P w K mg base fa cdv s0 H0).A) (C1 : Cal P w K mg base "_law_pick" ["_law_box_here", "_law_some"] sPick 2 spPick fPk dPk) : Ti (LX P w K mg base fa cdv s0 H0) (inS 8) (B4 K Z a ns) (B8 K Z a ns) := by
  refine ⟨_, (ps_set (i := 7) scLaw.nd rfl (.inr rfl) (pe_call C1.ok (hr.mono (by decide)) (by rfl) C1.ns.mg C1.ns.fn.kp C1.ns.bd .nil pass0 (pa_cons (pv 2) (pa_cons (pe_lst (pa_cons pe_non (pa_cons (pe_op op_add (pe_op op_pow pe_int pe_int) pe_int) (pa_cons (pe_op op_sub (pe_op op_sub pe_int (pe_op op_pow pe_int pe_int)) pe_int) (pa_cons pe_bl (pa_cons pe_str pa_nil)))))) pa_nil)))), fun i D σ H hA kk => ?_⟩
  obtain ⟨p, k, f, v, la, L, st, u, c⟩ := hA
  refine ⟨.ref p, c.v2, ?_⟩
  refine (el_lst (vs := [V.non, .int (10 ^ (6 : Int).toNat + 1), .int (0 - 10 ^ (6 : Int).toNat - 1), .bl true, .str "0"]) (ec ev_c (ec (ev_op (ev_op ev_c ev_c (rv_I ⟨by decide, by decide, by decide⟩)) ev_c rv_I0) (ec (ev_op (ev_op ev_c (ev_op ev_c ev_c (rv_I ⟨by decide, by decide, by decide⟩)) rv_I0) ev_c rv_I0) (ec ev_c (ec ev_c ez))))) (by decide)) _ (Ex.refl _) _ fun l H2 hl e2 h2 => ⟨p, l, _, rfl, c.box.ex e2, h2, c.box.ne' hl, by decide, by decide, fun x H' hx xb => kk _ _ ⟨p, k, f, v, la, L, st, u, x, ((c.ex e2).exB xb).set (by omega), sl_eq (by rw [c.len]; decide), ?_⟩⟩
  simp only [List.mem_cons, List.not_mem_nil, or_false] at hx
  rcases hx with rfl | rfl | rfl | rfl | rfl
  · exact ⟨sn_non, rfl⟩
  · exact ⟨sn_int (by decide), by decide⟩
  · exact ⟨sn_int (by decide), by decide⟩
  · exact ⟨sn_bl, rfl⟩
  · exact ⟨sn_0, rfl⟩
theorem in_10 (hr : Room 9 (LX P w K mg base fa cdv s0 H0).A) (C1 : Cal P w K mg base "_law_pick" ["_law_box_here", "_law_some"] sPick 2 spPick fPk dPk) : Ti (LX P w K mg base fa cdv s0 H0) (inS 10) (B4 K Z a ns) (B10 K Z a ns) := by
  refine ⟨_, (ps_set (i := 9) scLaw.nd rfl (.inr rfl) (pe_call C1.ok (hr.mono (by decide)) (by rfl) C1.ns.mg C1.ns.fn.kp C1.ns.bd .nil pass0 (pa_cons (pv 2) (pa_cons (pe_lst (pa_cons pe_int (pa_cons pe_int (pa_cons pe_non (pa_cons pe_bl pa_nil))))) pa_nil)))), fun i D σ H hA kk => ?_⟩
  obtain ⟨p, k, f, v, la, L, st, u, c⟩ := hA
  refine ⟨.ref p, c.v2, ?_⟩
  refine (el_lst (vs := [V.int 1, .int 9, .non, .bl true]) (ec ev_c (ec ev_c (ec ev_c (ec ev_c ez)))) (by decide)) _ (Ex.refl _) _ fun l H2 hl e2 h2 => ⟨p, l, _, rfl, c.box.ex e2, h2, c.box.ne' hl, by decide, by decide, fun x H' hx xb => kk _ _ ⟨p, k, f, v, la, L, st, u, x, ((c.ex e2).exB xb).set (by omega), sl_eq (by rw [c.len]; decide), ?_⟩⟩
  simp only [List.mem_cons, List.not_mem_nil, or_false] at hx
  rcases hx with rfl | rfl | rfl | rfl
  · exact ⟨sn_int (by decide), by decide⟩
  · exact ⟨sn_int (by decide), by decide⟩
  · exact ⟨sn_non, rfl⟩
  · exact ⟨sn_bl, rfl⟩
theorem in_14 (hr : Room 9 (LX P w K mg base fa cdv s0 H0).A) (C1 : Cal P w K mg base "_law_pick" ["_law_box_here", "_law_some"] sPick 2 spPick fPk dPk) : Ti (LX P w K mg base fa cdv s0 H0) (inS 14) (B4 K Z a ns) (B14 K Z a ns) := by
  refine ⟨_, (ps_set (i := 10) scLaw.nd rfl (.inr rfl) (pe_call C1.ok (hr.mono (by decide)) (by rfl) C1.ns.mg C1.ns.fn.kp C1.ns.bd .nil pass0 (pa_cons (pv 2) (pa_cons (pe_lst (pa_cons pe_non (pa_cons (pe_op op_sub pe_int pe_int) (pa_cons pe_bl (pa_cons pe_str pa_nil))))) pa_nil)))), fun i D σ H hA kk => ?_⟩
  obtain ⟨p, k, f, v, la, L, st, u, c⟩ := hA
  refine ⟨.ref p, c.v2, ?_⟩
  refine (el_lst (vs := [V.non, .int (0 - 1), .bl true, .str "0"]) (ec ev_c (ec (ev_op ev_c ev_c rv_I0) (ec ev_c (ec ev_c ez)))) (by decide)) _ (Ex.refl _) _ fun l H2 hl e2 h2 => ⟨p, l, _, rfl, c.box.ex e2, h2, c.box.ne' hl, by decide, by decide, fun x H' hx xb => kk _ _ ⟨p, k, f, v, la, L, st, u, x, ((c.ex e2).exB xb).set (by omega), sl_eq (by rw [c.len]; decide), ?_⟩⟩
  simp only [List.mem_cons, List.not_mem_nil, or_false] at hx
  rcases hx with rfl | rfl | rfl | rfl
  · exact ⟨sn_non, rfl⟩
  · exact ⟨sn_int (by decide), by decide⟩
  · exact ⟨sn_bl, rfl⟩
  · exact ⟨sn_0, rfl⟩
theorem in_16 (hr : Room 9 (LX P w K mg base fa cdv s0 H0).A) (C1 : Cal P w K mg base "_law_pick" ["_law_box_here", "_law_some"] sPick 2 spPick fPk dPk) : Ti (LX P w K mg base fa cdv s0 H0) (inS 16) (B4 K Z a ns) (B16 K Z a ns) := by
  refine ⟨_, (ps_set (i := 10) scLaw.nd rfl (.inr rfl) (pe_call C1.ok (hr.mono (by decide)) (by rfl) C1.ns.mg C1.ns.fn.kp C1.ns.bd .nil pass0 (pa_cons (pv 2) (pa_cons (pe_lst (pa_cons pe_non (pa_cons (pe_op op_sub pe_int pe_int) (pa_cons pe_bl (pa_cons pe_str (pa_cons (pe_ix ix_seq (pv 12) pe_int (fun _ _ => rfl)) pa_nil)))))) pa_nil)))), fun i D σ H hA kk => ?_⟩
  obtain ⟨p, k, f, v, la, L, st, u, c⟩ := hA
  obtain ⟨b, e, xs, rfl, h1, h2, h3⟩ := c.sto.now c.ok
  have ix : Ev (tOp (rIx K) (tVar 12) (tC (.int 0))) σ H (.int (v.length : Int)) := ev_op (ev_var c.v12) ev_c (rv_ixQ (.inl (SqT.of h1)) (atI_nat (j := 0) rfl))
  have l19 := c.n.l19
  refine ⟨.ref p, c.v2, ?_⟩
  refine (el_lst (vs := [V.non, .int (0 - 1), .bl true, .str "0", .int (v.length : Int)]) (ec ev_c (ec (ev_op ev_c ev_c rv_I0) (ec ev_c (ec ev_c (ec ix ez))))) (by show 5 ≤ 100000; decide)) _ (Ex.refl _) _ fun l H2 hl e2 h2 => ⟨p, l, _, rfl, c.box.ex e2, h2, c.box.ne' hl, by show 1 ≤ 5; decide, by show 5 ≤ 1000; decide, fun x H' hx xb => kk _ _ ⟨p, k, f, v, la, L, st, _, x, ((c.ex e2).exB xb).set (by omega), sl_eq (by rw [c.len]; decide), ?_⟩⟩
  simp only [List.mem_cons, List.not_mem_nil, or_false] at hx
  rcases hx with rfl | rfl | rfl | rfl | rfl
  · exact ⟨sn_non, trivial⟩
  · exact ⟨sn_int (by decide), .inl (by decide)⟩
  · exact ⟨sn_bl, trivial⟩
  · exact ⟨sn_0, trivial⟩
  · exact ⟨sn_int (by omega), .inr (Int.le_refl _)⟩
theorem shp1 : shp 2 0 1 = [(0, 1)] := by
  rw [← sF_eq (show 1 ≤ 60 by decide)]
  decide +kernel
theorem end_1 (hr : Room 9 (LX P w K mg base fa cdv s0 H0).A) (C1 : Cal P w K mg base "lay" ["store", "keep", "stamp", "value"] sLay 7 (spLay Rl) fLa dLa) (C2 : Cal P w K mg base "empty_store" [] sEmptyStore 1 spEmpty fES dES) (C3 : Cal P w K mg base "is_shape" ["keep", "laid", "value"] sIsShape 6 (spShapeP K U) fIS dIS) (hU : U ∈ Z.ts) :
    ∃ t, PS (LX P w K mg base fa cdv s0 H0) (lawS 1) t ∧ ∀ i D σ H, A0 K Z a ns i σ H → (∀ H', D.rt (.bl true) H') → t D σ H := by
  have hu : (LX P w K mg base fa cdv s0 H0).A.units + 64 < cLine := hr.units
  refine ⟨_, (ps_ret (pe_and (pe_cmpR (op_eqD hu) (pe_call C1.ok (hr.mono (by decide)) (by rfl) C1.ns.mg C1.ns.fn.kp C1.ns.bd .nil pass0 (pa_cons (pe_call0 C2.ok (hr.mono (by decide)) (by rfl) C2.ns.mg C2.ns.fn.kp C2.ns.bd .nil pass0) (pa_cons pe_int (pa_cons pe_int (pa_cons pe_int pa_nil))))) (pe_tup (pa_cons pe_int (pa_cons pe_int (pa_cons (pe_tup (pa_cons (pe_tup (pa_cons pe_int (pa_cons pe_int (pa_cons pe_int (pa_cons pe_int (pa_cons pe_int pa_nil)))))) pa_nil)) pa_nil)))) (nomark _)) (pe_one (pe_cmpR op_isTr (pe_call C3.ok (hr.mono (by decide)) (by rfl) C3.ns.mg C3.ns.fn.kp C3.ns.bd .nil pass0 (pa_cons pe_int (pa_cons pe_int (pa_cons (pe_tup (pa_cons (pe_tup (pa_cons pe_int (pa_cons pe_int pa_nil))) pa_nil)) pa_nil)))) pe_bl (nomark _))))), fun i D σ H hA kk => ?_⟩
  obtain ⟨p, len, h0, hz, scr⟩ := hA
  have rl : Rl 2 ([] ++ [rowS 0 5]) [⟨0, 1, 5, 5, 5⟩] := by
    refine ⟨0, 0, [5], by decide, by decide, ⟨by decide, by decide⟩, rfl, ?_, ?_⟩
    · unfold lvl
      rw [sh_bump, List.append_nil, counts_zero]
      rfl
    · have := shp1
      unfold shp at this
      rw [this]
      rfl
  refine ⟨rfl, fun v0 H1 e1 h1 => ⟨0, none, [], [⟨0, 1, 5, 5, 5⟩], v0, 2, 0, 5, rfl, h1.h, by decide, by decide, by decide, (fun m z => nomatch z), by decide, by decide, rl, fun u H2 e2 h2 => ?_⟩⟩
  refine ⟨by show 5 ≤ sizeLine; decide, fun t1 n1 => ⟨by show 1 ≤ sizeLine; decide, fun t2 n2 => ⟨by show 3 ≤ sizeLine; decide, fun t3 n3 => ?_⟩⟩⟩
  have y1 := Ex.new n1 (o := .tup [V.int 0, .int 1, .int 5, .int 5, .int 5])
  have y2 := Ex.new n2 (o := .tup [V.ref t1])
  have y3 := Ex.new n3 (o := .tup [V.int 1, .int 0, .ref t2])
  obtain ⟨b, e, xs, rfl, s1, s2, s3⟩ := h2
  have y := y1.trans (y2.trans y3)
  have hzz := hz.ex (e1.trans (e2.trans y))
  refine ⟨.tuple [.int 1, .int 0, .tuple [.tuple [.int 0, .int 1, .int 5, .int 5, .int 5]]], .tuple [.int 1, .int 0, .tuple [.tuple [.int 0, .int 1, .int 5, .int 5, .int 5]]], .tup (SqT.of (y _ _ s1)) (.cons (.int _) (.cons (.int _) (.cons (.tup (SqT.of (y _ _ s2)) (dpSpans (Paired.mapP s3 fun _ _ h => h.ex y))) .nil))),
    .tup (SqT.of upd_same) (.cons (.int _) (.cons (.int _) (.cons (.tup (SqT.of (y3 _ _ upd_same)) (.cons (.tup (SqT.of ((y2.trans y3) _ _ upd_same)) (.cons (.int _) (.cons (.int _) (.cons (.int _) (.cons (.int _) (.cons (.int _) .nil)))))) .nil)) .nil))), rfl, rfl, true, rfl, ?_⟩
  refine ⟨by show 2 ≤ sizeLine; decide, fun t4 n4 => ⟨by show 1 ≤ sizeLine; decide, fun t5 n5 => ?_⟩⟩
  have y4 := Ex.new n4 (o := .tup [V.int 0, .int 1])
  have y5 := Ex.new n5 (o := .tup [V.ref t4])
  have sm := same (k := 2) (f := 0) (l := 1) (by decide) (by decide)
  rw [shp1] at sm
  refine ⟨2, 1, [(0, 1)], .ref t5, rfl, by decide, by decide, by decide, by decide, ShIn.of upd_same (.cons ⟨t4, rfl, y5 _ _ upd_same⟩ .nil), (hzz.ex (y4.trans y5)).gs U hU, fun H' x => ⟨true, ?_, rfl, kk H'⟩⟩
  rw [sm]
  rfl
end
end K13
set_option Elab.async false
set_option linter.all false
set_option maxRecDepth 100000
set_option maxHeartbeats 4000000
namespace K13
open PySem PySem.Spec PyProof.Rows L2 GxR Pu Evl
theorem scBox : FnScope ["_law_script", "_law_k", "_law_cell", "_law_great"] ["_law_script", "_law_k"] (defScope sBox) := ⟨rfl, rfl, rfl, by decide +kernel, rfl, by decide +kernel, by decide +kernel⟩
theorem scTake : FnScope ["_law_box_here", "_law_many", "_law_digit", "_law_raw"] ["_law_box_here", "_law_many"] (defScope sTake) := ⟨rfl, rfl, rfl, by decide +kernel, rfl, by decide +kernel, by decide +kernel⟩
theorem scPick : FnScope ["_law_box_here", "_law_some"] ["_law_box_here", "_law_some"] (defScope sPick) := ⟨rfl, rfl, rfl, by decide +kernel, rfl, by decide +kernel, by decide +kernel⟩
section
variable {P : Program} {w : World} {K : PySem.W.Frag} {mg : Str → Option Value} {base : Heap}
variable {fBox fTake fPick : Addr} {dBox dTake dPick : FuncData}
theorem atI_map {ns : List Int} {j : Nat} (h : j < ns.length) : atI (ns.map V.int) (j : Int) = some (V.int (ns.getD j 0)) := by
  refine atI_nat ?_
  rw [List.getElem?_map, List.getElem?_eq_getElem h, List.getD_eq_getElem?_getD, List.getElem?_eq_getElem h]
  rfl
theorem ok_box {ns : List Int} {f : Addr} {fd : FuncData} (G : Mg mg) (F : Fun K "_law_box" "_law_box" sBox f fd) : FnOk P w K mg base CX0 1 f fd ["_law_script", "_law_k"] (spBox K ns) := by
  refine F.ok scBox (fun vs H Q E h => ?_) (fun cdv A outer s H vs Q E hr h => ?_)
  · obtain ⟨a, k, rfl, _⟩ := h
    rfl
  · obtain ⟨a, k, rfl, hs, hn, hk, kk⟩ := h
    refine ⟨_, pss_cons (ps_set (i := 2) scBox.nd rfl (.inl rfl) (pe_op op_add (pe_op op_mul pe_int (pv 1)) pe_int))
      (pss_cons (ps_if (pt_cmpR op_lt (pv 1) (pe_callB call_len (by rfl) G.len boot_len (pa_cons (pv 0) pa_nil)) (nomark _))
        (pss_one (ps_set (i := 2) scBox.nd rfl (.inl rfl) (pe_callB call_abs (by rfl) G.abs boot_abs (pa_cons (pe_callTy (T := "int") call_int1 (by rfl) G.int (by decide +kernel) (pa_cons (pe_ix ix_list (pv 0) (pv 1) (fun _ _ => rfl)) pa_nil)) pa_nil))))
        (pss_one (ps_if (pt_cmpR op_gt (pe_callB call_len (by rfl) G.len boot_len (pa_cons (pv 0) pa_nil)) pe_int (nomark _))
          (pss_one (ps_set (i := 2) scBox.nd rfl (.inl rfl) (pe_op op_add (pv 2) (pe_op op_mul (pe_op op_mod (pe_callTy (T := "int") call_int1 (by rfl) G.int (by decide +kernel) (pa_cons
            (pe_callB call_abs (by rfl) G.abs boot_abs (pa_cons (pe_callTy (T := "int") call_int1 (by rfl) G.int (by decide +kernel) (pa_cons (pe_ix ix_list (pv 0)
              (pe_op op_mod (pe_callTy (T := "int") call_int1 (by rfl) G.int (by decide +kernel) (pa_cons (pv 1) pa_nil)) (pe_callB call_len (by rfl) G.len boot_len (pa_cons (pv 0) pa_nil))) (fun _ _ => rfl)) pa_nil)) pa_nil)) pa_nil)) pe_int) pe_int))))
          pss_nil)))
      (pss_cons (ps_set (i := 3) scBox.nd rfl (.inl rfl) (pe_ifExp (pt_cmpR op_ge (pv 2) (pe_op op_pow pe_int pe_int) (nomark _)) (pv 2) pe_int))
      (pss_one (ps_ret (pe_lst (pa_cons (pv 3) (pa_cons (pe_op op_add (pe_op op_mod (pe_callTy (T := "int") call_int1 (by rfl) G.int (by decide +kernel) (pa_cons
        (pe_op op_add (pe_op op_mul (pe_op op_mod (pe_callTy (T := "int") call_int1 (by rfl) G.int (by decide +kernel) (pa_cons (pv 2) pa_nil)) pe_int) pe_int) (pe_op op_mul pe_int (pv 1))) pa_nil)) pe_int) pe_int) pa_nil))))))), ?_⟩
    have c64 : ∀ j : Int, 0 ≤ j → j < 2 ^ 64 → ∀ i : Int, CMul i j := fun j a b i => .inr ⟨by omega, b⟩
    have d64 : ∀ j : Int, 0 ≤ j → j < 2 ^ 64 → ∀ i : Int, CMul j i := fun j a b i => .inl ⟨by omega, b⟩
    have ml : (ns.map V.int).length = ns.length := by simp
    refine q_asg (v := .int (7583 * (k : Int) + 1193)) (ev_op (ev_op ev_c (ev_var rfl) (rv_I (d64 _ (by decide) (by decide) _))) ev_c rv_I0) fun H1 e1 => ?_
    have hs1 := ex_l e1 hs
    refine q_ifSet (i := 2) (c0 := 7583 * (k : Int) + 1193) (fun c => 0 ≤ c) (et_test (ev_op (ev_var rfl) (ev_lenL (ev_var rfl) hs1) rv_I0)) (fun z => ?_) (fun _ => et_test (ev_op (ev_lenL (ev_var rfl) hs1) ev_c rv_I0)) (fun z y => ?_) ⟨by omega, rfl⟩ fun c H2 hc e2 => ?_
    · have hk2 : k < ns.length := by have := of_decide_eq_true z; omega
      refine ⟨_, ?_, ev_cb (ea_cons (ev_int1 (ev_op (ev_var rfl) (ev_var rfl) (rv_ixL hs1 (atI_map hk2)))) ea_nil) rc_abs⟩
      split <;> omega
    · have hn0 : 0 < ns.length := by have := of_decide_eq_true y; omega
      obtain ⟨j, hj, hjn⟩ := mod_nat (k : Int) (m := ns.length) hn0
      have jx : Ev (tOp (rI (fun _ j => 0 < j) fun i j => .int (i % j)) (tCB (fun xs H Q => (∃ i, xs = [V.int i] ∧ Q (.int i) H) ∨ ∃ k, xs = [.bl k] ∧ Q (.int (if k then 1 else 0)) H) (tCons (tVar 1) tNil)) (tCB (fun ys H Q => ∃ x n, ys = [x] ∧ LenV K x H n ∧ Q (.int n) H) (tCons (tVar 0) tNil))) (List.set (start ["_law_script", "_law_k", "_law_cell", "_law_great"] [V.ref a, V.int k]) 2 (some (V.int (7583 * (k : Int) + 1193)))) H1 (.int (j : Int)) :=
        ev_is (ev_op (ev_int1 (ev_var rfl)) (ev_lenL (ev_var rfl) hs1) (rv_I (by omega))) (by rw [ml, hj])
      obtain ⟨x, hx⟩ : ∃ x : Int, (if ns.getD j 0 < 0 then -ns.getD j 0 else ns.getD j 0) = x := ⟨_, rfl⟩
      have x0 := Int.emod_nonneg x (show (2147483587 : Int) ≠ 0 by decide)
      refine ⟨7583 * (k : Int) + 1193 + x % 2147483587 * 50461, by omega, ?_⟩
      refine ev_op (ev_var rfl) (ev_op (ev_op (ev_int1 (ev_is (ev_cb (ea_cons (ev_int1 (ev_op (ev_var rfl) jx (rv_ixL hs1 (atI_map hjn)))) ea_nil) rc_abs) (by rw [hx]))) ev_c (rv_I (by decide))) ev_c (rv_I (c64 _ (by decide) (by decide) _))) rv_I0
    · have pw : CPow 10 18 := ⟨by decide, by decide, by decide⟩
      obtain ⟨g, hg, hg0⟩ : ∃ g : Int, (if 10 ^ 18 ≤ c then c else 0) = g ∧ 0 ≤ g := ⟨_, rfl, by split <;> omega⟩
      refine q_asg (v := .int g) (ev_if (et_test (ev_op (ev_var rfl) (ev_op ev_c ev_c (rv_I pw)) rv_I0)) (fun z => ev_is (ev_var rfl) ?_) (fun z => ev_is ev_c ?_)) fun H3 e3 => ?_
      · rw [← hg, if_pos (show (10 : Int) ^ 18 ≤ c from of_decide_eq_true z)]
      · rw [← hg, if_neg (show ¬ (10 : Int) ^ 18 ≤ c from of_decide_eq_false z)]
      · have y0 := Int.emod_nonneg (c % 2147483587 * 69761 + 1193 * (k : Int)) (show (2147483587 : Int) ≠ 0 by decide)
        refine s_retL (xs := [.int g, .int ((c % 2147483587 * 69761 + 1193 * (k : Int)) % 2147483587 + 1)]) (el_lst (ea_cons (ev_var rfl) (ea_cons (ev_op (ev_op (ev_int1 (ev_op (ev_op (ev_op (ev_int1 (ev_var rfl)) ev_c (rv_I (by decide))) ev_c (rv_I (c64 _ (by decide) (by decide) _)))
          (ev_op ev_c (ev_var rfl) (rv_I (d64 _ (by decide) (by decide) _))) rv_I0)) ev_c (rv_I (by decide))) ev_c rv_I0) ea_nil)) (by show 2 ≤ 100000; decide)) fun p H4 hp e4 h4 => ?_
        exact kk p H4 (fresh_back ((e1.trans e2).trans e3) hp) (((e1.trans e2).trans e3).trans e4) ⟨g, _, h4, hg0, by omega⟩
theorem ok_take {f : Addr} {fd : FuncData} (G : Mg mg) (F : Fun K "_law_take" "_law_take" sTake f fd) : FnOk P w K mg base CX0 1 f fd ["_law_box_here", "_law_many"] spTake := by
  refine F.ok scTake (fun vs H Q E h => ?_) (fun cdv A outer s H vs Q E hr h => ?_)
  · obtain ⟨p, m, rfl, _⟩ := h
    rfl
  · obtain ⟨p, m, rfl, h1, h9, hb, kk⟩ := h
    refine ⟨_, pss_cons (ps_if (pt_cmpR op_gt (pe_ix ix_list (pv 0) pe_int (fun _ _ => rfl)) pe_int (nomark _))
        (pss_cons (ps_set (i := 2) scTake.nd rfl (.inl rfl) (pe_op op_mod (pe_callTy (T := "int") call_int1 (by rfl) G.int (by decide +kernel) (pa_cons (pe_ix ix_list (pv 0) pe_int (fun _ _ => rfl)) pa_nil)) (pv 1)))
        (pss_cons (ps_asg (pe_op op_fdivW (pe_ix ix_list (pv 0) pe_int (fun _ _ => rfl)) (pv 1)) (pg_sub (pv 0) pe_int set_list (fun _ => rfl)))
        (pss_one (ps_ret (pv 2)))))
        pss_nil)
      (pss_cons (ps_set (i := 3) scTake.nd rfl (.inl rfl) (pe_op op_mod (pe_callTy (T := "int") call_int1 (by rfl) G.int (by decide +kernel) (pa_cons (pe_op op_add (pe_op op_mul (pe_ix ix_list (pv 0) pe_int (fun _ _ => rfl)) pe_int) pe_int) pa_nil)) pe_int))
      (pss_cons (ps_asg (pe_op op_add (pe_op op_mod (pe_callTy (T := "int") call_int1 (by rfl) G.int (by decide +kernel) (pa_cons (pe_op op_add (pe_op op_mul (pv 3) pe_int) pe_int) pa_nil)) pe_int) pe_int) (pg_sub (pv 0) pe_int set_list (fun _ => rfl)))
      (pss_one (ps_ret (pe_op op_mod (pe_callTy (T := "int") call_int1 (by rfl) G.int (by decide +kernel) (pa_cons (pe_op op_fdiv (pe_op op_add (pe_op op_mul (pv 3) pe_int) (pe_ix ix_list (pv 0) pe_int (fun _ _ => rfl))) pe_int) pa_nil)) (pv 1)))))), ?_⟩
    obtain ⟨g, s', hH, hg, hs⟩ := hb
    have m0 : (0 : Int) < (m : Int) := by omega
    refine q_when (b := decide (0 < g)) (et_test (ev_op (ev_op (ev_var rfl) ev_c (rv_ixL (SqL.of hH) rfl)) ev_c rv_I0)) (fun hgt H1 e1 => ?_) (fun _ H1 e1 => ?_)
    · obtain ⟨d, hd, hdm⟩ := mod_nat g h1
      refine q_asg (v := .int (d : Int)) (ev_is (ev_op (ev_int1 (ev_op (ev_var rfl) ev_c (rv_ixL (SqL.of (e1 _ _ hH)) rfl))) (ev_var rfl) (rv_I m0)) (by rw [hd])) fun H2 e2 => ?_
      have h2 := (e1.trans e2) _ _ hH
      refine q_setL (j := 0) (v := .int (g / (m : Int))) h2 (ev_op (ev_op (ev_var rfl) ev_c (rv_ixL (SqL.of h2) rfl)) (ev_var rfl) (rv_I ⟨m0, ?_⟩)) (ev_var rfl) ev_c (by simp) fun H3 e3 => ?_
      · exact lt_log h9
      · exact s_ret (ev_var rfl) fun H4 e4 => kk d H4 hdm (ExB.of ((e1.trans e2).trans e3) e4 (Int.ediv_nonneg hg (by omega)) hs)
    · have h1' := e1 _ _ hH
      have c64 : ∀ j : Int, 0 ≤ j → j < 2 ^ 64 → ∀ i : Int, CMul i j := fun j a b i => .inr ⟨by omega, b⟩
      obtain ⟨r, hr⟩ : ∃ r : Int, (s' * 40692 + 79) % 2147483399 = r := ⟨_, rfl⟩
      refine q_asg (v := .int r) (ev_is (ev_op (ev_int1 (ev_op (ev_op (ev_op (ev_var rfl) ev_c (rv_ixL (SqL.of h1') rfl)) ev_c (rv_I (c64 _ (by decide) (by decide) _))) ev_c rv_I0)) ev_c (rv_I (by decide))) (by rw [hr])) fun H2 e2 => ?_
      have h2 := e2 _ _ h1'
      obtain ⟨t, ht⟩ : ∃ t : Int, (r * 39373 + 31) % 2147483587 + 1 = t := ⟨_, rfl⟩
      have t0 : 0 ≤ t := by
        have := Int.emod_nonneg (r * 39373 + 31) (show (2147483587 : Int) ≠ 0 by decide)
        omega
      refine q_setL (j := 1) (v := .int t) h2 (ev_is (ev_op (ev_op (ev_int1 (ev_op (ev_op (ev_var rfl) ev_c (rv_I (c64 _ (by decide) (by decide) _))) ev_c rv_I0)) ev_c (rv_I (by decide))) ev_c rv_I0) (by rw [ht])) (ev_var rfl) ev_c (by simp) fun H3 e3 => ?_
      have h4 : (upd H3 p (.lst ([V.int g, .int s'].set 1 (.int t)))) p = some (.lst [.int g, .int t]) := upd_same
      obtain ⟨d, hd, hdm⟩ := mod_nat ((r * 2147483629 + t) / 8167) h1
      refine s_ret (v := .int (d : Int)) (ev_is (ev_op (ev_int1 (ev_op (ev_op (ev_op (ev_var rfl) ev_c (rv_I (c64 _ (by decide) (by decide) _))) (ev_op (ev_var rfl) ev_c (rv_ixL (SqL.of h4) rfl)) rv_I0) ev_c (rv_I ?_))) (ev_var rfl) (rv_I m0)) (by rw [hd])) fun H4 e4 => kk d H4 hdm (ExB.of ((e1.trans e2).trans e3) e4 hg t0)
      exact ⟨by decide, by decide⟩
theorem ok_pick {f : Addr} {fd : FuncData} (G : Mg mg) (F : Fun K "_law_pick" "_law_pick" sPick f fd) (F1 : Fns K mg "_law_take" ["_law_box_here", "_law_many"] sTake fTake dTake) : FnOk P w K mg base CX0 2 f fd ["_law_box_here", "_law_some"] spPick := by
  have G1 : FnOk P w K mg base CX0 1 fTake dTake ["_law_box_here", "_law_many"] spTake := ok_take G F1.fn
  refine F.ok scPick (fun vs H Q E h => ?_) (fun cdv A outer s H vs Q E hr h => ?_)
  · obtain ⟨p, q, ys, rfl, _⟩ := h
    rfl
  · obtain ⟨p, q, ys, rfl, hb, hq, hne, hl, hz, kk⟩ := h
    refine ⟨_, pss_one (ps_ret (pe_ix ix_list (pv 1) (pe_call G1 hr (by rfl) F1.mg F1.fn.kp F1.bd .nil pass0 (pa_cons (pv 0) (pa_cons (pe_callB call_len (by rfl) G.len boot_len (pa_cons (pv 1) pa_nil)) pa_nil))) (fun _ _ => rfl))), ?_⟩
    refine ⟨.ref q, rfl, .ref p, rfl, .ref q, rfl, .ref q, ys.length, rfl, .inl ⟨ys, SqL.of hq, rfl⟩, p, ys.length, rfl, hl, by omega, hb, fun d H' hd e => ?_⟩
    refine ⟨q, ys, d, ys[d], rfl, rfl, SqL.of (e.2 _ _ hne hq), atI_nat (List.getElem?_eq_getElem hd), kk _ H' (List.getElem_mem hd) e⟩
end
end K13
set_option Elab.async false
set_option linter.all false
set_option maxRecDepth 100000
set_option maxHeartbeats 4000000
namespace K13
open PySem PySem.Spec PyProof.Rows L2 GxR Pu Evl
def Fx (K : PySem.W.Frag) (mg : Str → Option Value) (x : Str) (ps : List Str) (st : Stmt) : Prop := ∃ f fd, Fns K mg x ps st f fd
def Fk (K : PySem.W.Frag) (mg : Str → Option Value) (x : Str) (ps : List Str) (st : Stmt) (ks : List Str) (is : List Nat) : Prop := ∃ f fd, Fns K mg x ps st f fd ∧ KwOk K fd ps ks (perm is) (perm is)
/-- a def of the text -/
def DefIn (K : PySem.W.Frag) (x : Str) (st : Stmt) : Prop := ∃ (f : Addr) (oc : Value) (od : Option Addr) (kV doc pm : Value) (an : Option Addr) (cd ct : Value) (sl : Array (Option Value)),
  PySem.W.nsIn K mainGlobals x = some (some (.ref f)) ∧ K.lookup f = some ⟨oc, od, .func (PySem.W.fnOf x x (defArgs st) (defBody st) (defScope st) .none kV doc pm an cd ct), sl⟩ ∧ PySem.W.codeIn K cd x = true ∧ PySem.W.keepIn K (.ref f) = true
section
variable {K : PySem.W.Frag} {h : Heap} {mg : Str → Option Value}
theorem DefIn.fx {x : Str} {ps : List Str} {st : Stmt} (X : K.In h) (G : h.Ns mainGlobals mg) (D : DefIn K x st)
    (hb : ∀ (kV doc pm : Value) (an : Option Addr) (cdv ct : Value) (us : List Value), us.length = ps.length → bindArgs (PySem.W.fnOf x x (defArgs st) (defBody st) (defScope st) .none kV doc pm an cdv ct) ⟨us, []⟩ = pure (ps.zip us)) : Fx K mg x ps st := by
  obtain ⟨f, oc, od, kV, doc, pm, an, cd, ct, sl, h1, h2, h3, h4⟩ := D
  exact ⟨f, _, fun_mk h2 h3 h4, (fun_mk h2 h3 h4).binds hb, PySem.W.mg_of X G h1⟩
theorem DefIn.fk {x : Str} {ps ks : List Str} {is : List Nat} {st : Stmt} (X : K.In h) (G : h.Ns mainGlobals mg) (D : DefIn K x st)
    (hb : ∀ (kV doc pm : Value) (an : Option Addr) (cdv ct : Value) (us : List Value), us.length = ps.length → bindArgs (PySem.W.fnOf x x (defArgs st) (defBody st) (defScope st) .none kV doc pm an cdv ct) ⟨us, []⟩ = pure (ps.zip us))
    (hk : ∀ (kV doc pm : Value) (an : Option Addr) (cdv ct : Value) (ws : List Value), ws.length = is.length → bindArgs (PySem.W.fnOf x x (defArgs st) (defBody st) (defScope st) .none kV doc pm an cdv ct) ⟨[], ks.zip ws⟩ = pure (ps.zip (perm is ws))) (hn : 0 < ps.length) : Fk K mg x ps st ks is := by
  obtain ⟨f, oc, od, kV, doc, pm, an, cd, ct, sl, h1, h2, h3, h4⟩ := D
  exact ⟨f, _, ⟨fun_mk h2 h3 h4, (fun_mk h2 h3 h4).binds hb, PySem.W.mg_of X G h1⟩, kwOk (fun ws hl => hk _ _ _ _ _ _ ws hl) hn⟩
end
theorem DefIn.mk {K : PySem.W.Frag} {x : Str} {st : Stmt} {f : Addr} {oc : Value} {od : Option Addr} {kV doc pm : Value} {an : Option Addr} {cd ct : Value} {sl : Array (Option Value)}
    (h1 : PySem.W.nsIn K mainGlobals x = some (some (.ref f))) (h2 : K.lookup f = some ⟨oc, od, .func (PySem.W.fnOf x x (defArgs st) (defBody st) (defScope st) .none kV doc pm an cd ct), sl⟩) (h3 : PySem.W.codeIn K cd x = true) (h4 : PySem.W.keepIn K (.ref f) = true) : DefIn K x st :=
  ⟨f, oc, od, kV, doc, pm, an, cd, ct, sl, h1, h2, h3, h4⟩
theorem tab_mk {K : PySem.W.Frag} {x : Str} {f c T : Addr} {oc cc : Value} {od oe : Option Addr} {fd : FuncData} {vs : Array Value} {sl sm : Array (Option Value)} (h1 : PySem.W.nsIn K mainGlobals x = some (some (.ref f))) (h2 : K.lookup f = some ⟨oc, od, .func fd, sl⟩) (hc : fd.code = .ref c)
    (h3 : K.lookup c = some ⟨cc, oe, .fields vs, sm⟩) (h4 : (vs[11]? : Option Value) = some (.ref T)) : PySem.W.tabIn K x = some (c, T) := by
  unfold PySem.W.tabIn
  rw [h1]
  show (match K.lookup f with
    | some ⟨_, _, .func fd, _⟩ => _
    | _ => none) = _
  rw [h2]
  show (match fd.code with
    | .ref c => _
    | _ => none) = _
  rw [hc]
  show (match K.lookup c with
    | some ⟨_, _, .fields vs, _⟩ => _
    | _ => none) = _
  rw [h3]
  show (match (vs[11]? : Option Value) with
    | some (.ref P) => some (c, P)
    | _ => none) = _
  rw [h4]
theorem cst_mk {K : PySem.W.Frag} {x : Str} {v : V} {u : Value} (h : PySem.W.nsIn K mainGlobals x = some (some u)) (r : RelV v u) : ∃ u, PySem.W.nsIn K mainGlobals x = some (some u) ∧ RelV v u := ⟨u, h, r⟩
theorem oex_mk {K : PySem.W.Frag} {C : Addr} {nm : _} {q : _} {N : _} {bs : _} {bm : _} {sn : _} {sub : _} {ab : _} {col : _} {dd : _} {k0 : _} {k1 : _} {k2 : _} {k3 : _} {k5 : _} (h : K.lookup C = some (excClassObj nm q C N bs bm true sn sub ab col dd k0 k1 k2 k3 k5 "ValueError.__new__")) (r : PySem.HandSPX.refsVE bm = true)
    (sa : PySem.W.findIn K (.ref C) "__setattr__" = some (some (.builtin "object.__setattr__"))) (ex : PySem.W.subIn K (.ref C) (.type "BaseException") = some true) (ty : PySem.W.typeIn K (.ref C) = some (.type "type")) (k : PySem.W.keepIn K (.ref C) = true) : OexC K C :=
  ⟨⟨_, _, _, _, _, _, _, _, _, _, _, _, _, _, _, h, r⟩, sa, ex, ty, k⟩
/-- the class of the errors of values, and the one under it -/
def ClsIn (K : PySem.W.Frag) : Prop := ∃ (Cr CF fI : Addr) (dI : FuncData), RefC K Cr fI ∧ Fun K "__init__" "Refused.__init__" sInit fI dI ∧ Binds K dI ["self", "at"] [] ∧ PySem.W.nsIn K mainGlobals "Refused" = some (some (.ref Cr)) ∧ PySem.W.nsIn K mainGlobals "FarError" = some (some (.ref CF)) ∧
  PySem.W.kitOne K (.ref Cr) (.ref CF) = some true ∧ PySem.W.exmOne K (.ref Cr) (.ref Cr) = some true
theorem ClsIn.mk {K : PySem.W.Frag} {Cr CF fI : Addr} {nm : _} {q : _} {N : _} {bs : _} {bm : _} {sn : _} {sub : _} {ab : _} {col : _} {dd : _} {k0 : _} {k1 : _} {k2 : _} {k3 : _} {k5 : _} {oc : Value} {od : Option Addr} {kV doc pm : Value} {an : Option Addr} {cd ct : Value} {sl : Array (Option Value)}
    (aR : PySem.W.nsIn K mainGlobals "Refused" = some (some (.ref Cr))) (aF : PySem.W.nsIn K mainGlobals "FarError" = some (some (.ref CF)))
    (h : K.lookup Cr = some (excClassObj nm q Cr N bs bm true sn sub ab col dd k0 k1 k2 k3 k5 "ValueError.__new__")) (r : PySem.HandSPX.refsVE bm = true)
    (sa : PySem.W.findIn K (.ref Cr) "__setattr__" = some (some (.builtin "object.__setattr__"))) (ex : PySem.W.subIn K (.ref Cr) (.type "BaseException") = some true) (ty : PySem.W.typeIn K (.ref Cr) = some (.type "type")) (k : PySem.W.keepIn K (.ref Cr) = true)
    (ini : PySem.W.findIn K (.ref Cr) "__init__" = some (some (.ref fI))) (tI : PySem.W.typeIn K (.ref fI) = some (.type "function"))
    (hg : PySem.W.findIn K (.ref Cr) "__getattribute__" = some (some (.builtin "BaseException.__getattribute__"))) (hk : PySem.W.findIn K (.ref Cr) "__getattr__" = some none) (hd : PySem.W.hasDictIn K Cr = true)
    (ha : PySem.W.findIn K (.ref Cr) "__class__" = some (some (.builtin "object.__class__"))) (hn : PySem.W.specialIn K (.builtin "object.__class__") "__get__" = some (some (.builtin "getset_descriptor.__get__"))) (ht : PySem.W.takesIn K (.builtin "object.__class__") = some true) (hm : PySem.W.mroIn K Cr (.type "object") = some true)
    (no : PySem.W.findIn K (.ref Cr) "at" = some none)
    (l : K.lookup fI = some ⟨oc, od, .func (PySem.W.fnOf "__init__" "Refused.__init__" (defArgs sInit) (defBody sInit) (defScope sInit) .none kV doc pm an cd ct), sl⟩) (c : PySem.W.codeIn K cd "Refused.__init__" = true) (kI : PySem.W.keepIn K (.ref fI) = true)
    (kit : PySem.W.kitOne K (.ref Cr) (.ref CF) = some true) (sb : PySem.W.subIn K (.ref Cr) (.ref Cr) = some true) : ClsIn K :=
  ⟨Cr, CF, fI, _, ⟨oex_mk h r sa ex ty k, ini, tI, ⟨hg, hk, ex, hd⟩, ⟨hg, hk, ex, hd, ha, hn, ht, hm⟩, no⟩, fun_mk (st := sInit) l c kI, (fun_mk (st := sInit) l c kI).binds (fun _ _ _ _ _ _ us hl => match us, hl with | [_, _], _ => rfl), aR, aF, kit, PySem.W.exm_ref ex hd ty sb⟩
/-- all that the text must hold -/
structure AllF (K : PySem.W.Frag) (mg : Str → Option Value) (c0 : Addr) (c1 : Addr) (c2 : Addr) : Prop where
  g : Mg mg
  k_MOST_VALUE : ∃ u, mg "MOST_VALUE" = some u ∧ RelV (.int 1000000) u
  int : Fx K mg "is_integer" ["value"] sIsInteger
  num : Fx K mg "is_number" ["value"] sIsNumber
  seq : Fx K mg "is_sequence" ["value"] sIsSequence
  par : Fx K mg "is_of_parts" ["value", "many"] sIsOfParts
  nn : Fx K mg "need_number" ["value"] sNeedNumber
  ik : Fx K mg "is_keep" ["value"] sIsKeep
  nk : Fx K mg "need_keep" ["keep"] sNeedKeep
  co : Fx K mg "counts_of" ["keep", "many"] sCountsOf
  sf : Fx K mg "shape_from" ["keep", "first", "laid"] sShapeFrom
  st : Fx K mg "is_stretch" ["value"] sIsStretch
  fo : Fx K mg "first_of" ["some", "laid"] sFirstOf
  rd : Fx K mg "is_reading" ["value"] sIsReading
  sz : Fx K mg "is_size" ["value"] sIsSize
  su : Fx K mg "sums_with" ["many", "low", "high", "needs"] sSumsWith
  en : Fx K mg "ends_of" ["low", "high"] sEndsOf
  sp : Fx K mg "is_span" ["value"] sIsSpan
  rs : Fx K mg "row_span" ["row", "value"] sRowSpan
  be : Fx K mg "behind" ["span"] sBehind
  al : Fx K mg "span_of_all" ["spans"] sSpanOfAll
  jo : Fx K mg "join" ["one", "other"] sJoin
  es : Fx K mg "empty_store" [] sEmptyStore
  so : Fx K mg "shape_of" ["store"] sShapeOf
  iss : Fk K mg "is_store" ["keep", "value"] sIsStore ["value", "keep"] [1, 0]
  se : Fx K mg "settled" ["spans", "keep"] sSettled
  la : Fx K mg "lay" ["store", "keep", "stamp", "value"] sLay
  lg : Fx K mg "let_go" ["store", "below"] sLetGo
  sw : Fx K mg "span_with" ["store", "row"] sSpanWith
  ll : Fx K mg "laid_all" ["keep", "rows"] sLaidAll
  box : Fx K mg "_law_box" ["_law_script", "_law_k"] sBox
  take : Fx K mg "_law_take" ["_law_box_here", "_law_many"] sTake
  pick : Fx K mg "_law_pick" ["_law_box_here", "_law_some"] sPick
  rf : Fx K mg "_law_refused" ["_law_ask"] sLRefused
  bent : Fx K mg "_law_bent" ["_law_box_here", "_law_store"] sLBent
  cls : ∃ (Cr CF fI : Addr) (dI : FuncData), RefC K Cr fI ∧ Fun K "__init__" "Refused.__init__" sInit fI dI ∧ Binds K dI ["self", "at"] [] ∧ mg "Refused" = some (.ref Cr) ∧ mg "FarError" = some (.ref CF) ∧ PySem.W.kitOne K (.ref Cr) (.ref CF) = some true ∧ PySem.W.exmOne K (.ref Cr) (.ref Cr) = some true
  ish : ∃ f fd, FunC K "is_shape" "is_shape" sIsShape f fd c0 ∧ Binds K fd ["keep", "laid", "value"] [] ∧ mg "is_shape" = some (.ref f)
  asp : ∃ f fd, FunC K "are_spans" "are_spans" sAreSpans f fd c1 ∧ Binds K fd ["value"] [] ∧ mg "are_spans" = some (.ref f)
section
variable {P : Program} {w : World} {K : PySem.W.Frag} {mg : Str → Option Value} {base : Heap} {a fa : Addr} {ns : List Int} {cdv : Value} {s0 : Shared} {H0 : Hp} {Z : Tx}
theorem ti_0 (G : Mg mg) (hb : Tis (LX P w K mg base fa cdv s0 H0) (bodyOf (lawS 0)) (fun i σ H => A0 K Z a ns i σ H ∧ σ[1]? = some (some (.int (i : Int))) ∧ i < 4) (fun i => A0 K Z a ns (i + 1))) : Ti (LX P w K mg base fa cdv s0 H0) (lawS 0) (A0 K Z a ns) (A0 K Z a ns) := by
  obtain ⟨tb, hb1, hb2⟩ := hb
  refine ⟨_, (ps_for PassesOwn.never rfl (pi_range1 (by rfl) G.range (pa_cons pe_int pa_nil)) (pg_name (i := 1) scLaw.nd rfl (.inl rfl)) hb1), fun i D σ H hA kk => ?_⟩
  refine ⟨4, rfl, by decide, by decide, for_range (lo := 0) (n := (4 : Int).toNat) (fun m σ' H' => A0 K Z a ns m σ' H') hA (fun m σ' H' hm hP => ?_) fun σ' H' hP => kk _ _ hP⟩
  refine hb2 m _ _ _ ⟨?_, ?_, hm⟩ fun σ'' H'' h => h
  · obtain ⟨p, len, h0, hz, scr⟩ := hP
    exact ⟨p, by rw [List.length_set]; exact len, sl_ne h0 (by decide), hz, scr⟩
  · obtain ⟨p, len, h0, hz, scr⟩ := hP
    rw [show (0 : Int) + (m : Int) = (m : Int) by omega]
    exact sl_eq (by rw [len]; decide)
end
section
variable {P : Program} {w : World} {K : PySem.W.Frag} {mg : Str → Option Value} {c0 c1 c2 T0 T1 T2 a fa : Addr} {ns : List Int}
theorem body (F : AllF K mg c0 c1 c2) (_ : T0 ≠ T1) (n02 : T0 ≠ T2) (n12 : T1 ≠ T2) (hn : ns.length ≤ 100) (hr12 : Room 12 callerA) : BodyOkC P w K mg [(c0, T0), (c1, T1), (c2, T2)] lawN sLaw fa a ns (.ref c2) := by
  intro base s H M hTB hT hS
  have TB0 : TabB base mg c0 T0 := hTB (c0, T0) List.mem_cons_self
  have TB1 : TabB base mg c1 T1 := hTB (c1, T1) (List.mem_cons_of_mem _ List.mem_cons_self)
  have TB2 : TabB base mg c2 T2 := hTB (c2, T2) (List.mem_cons_of_mem _ (List.mem_cons_of_mem _ List.mem_cons_self))
  obtain ⟨Z, hZ⟩ : ∃ Z : Tx, Z = ⟨[T0, T1], T2, (LX P w K mg base fa (.ref c2) s H).env.qual ++ "<lambda>"⟩ := ⟨_, rfl⟩
  have m0 : T0 ∈ Z.ts := by rw [hZ]; exact List.mem_cons_self
  have m1 : T1 ∈ Z.ts := by rw [hZ]; exact List.mem_cons_of_mem _ List.mem_cons_self
  have np : Z.p ∉ Z.ts := by
    rw [hZ]
    intro h
    rcases List.mem_cons.mp h with z | h
    · exact n02 z.symm
    rcases List.mem_cons.mp h with z | h
    · exact n12 z.symm
    · cases h
  have TL : LamX.TabB base mg c2 Z.p := by rw [hZ]; exact ⟨TB2.code, TB2.bm, TB2.gP⟩
  have hq : (LX P w K mg base fa (.ref c2) s H).env.qual ++ "<lambda>" = Z.q := by rw [hZ]
  have hz : Z.Ok H := by
    rw [hZ]
    refine ⟨fun T hh => ?_, #[], hT (c2, T2) (List.mem_cons_of_mem _ (List.mem_cons_of_mem _ List.mem_cons_self)), trivial, fun pos cv h => nomatch h⟩
    rcases List.mem_cons.mp hh with z | hh
    · rw [z]; exact ⟨#[], hT (c0, T0) List.mem_cons_self, trivial⟩
    rcases List.mem_cons.mp hh with z | hh
    · rw [z]; exact ⟨#[], hT (c1, T1) (List.mem_cons_of_mem _ List.mem_cons_self), trivial⟩
    · cases hh
  clear hZ
  have hrX : Room 10 (LX P w K mg base fa (.ref c2) s H).A := (hr12.mono (show 11 ≤ 12 by decide)).deeper _
  have hr : Room 9 (LX P w K mg base fa (.ref c2) s H).A := hrX.mono (by decide)
  have G := F.g
  have MV := F.k_MOST_VALUE
  obtain ⟨f_int, d_int, x_int⟩ := F.int
  obtain ⟨f_num, d_num, x_num⟩ := F.num
  obtain ⟨f_seq, d_seq, x_seq⟩ := F.seq
  obtain ⟨f_par, d_par, x_par⟩ := F.par
  obtain ⟨f_nn, d_nn, x_nn⟩ := F.nn
  obtain ⟨f_ik, d_ik, x_ik⟩ := F.ik
  obtain ⟨f_nk, d_nk, x_nk⟩ := F.nk
  obtain ⟨f_co, d_co, x_co⟩ := F.co
  obtain ⟨f_sf, d_sf, x_sf⟩ := F.sf
  obtain ⟨f_st, d_st, x_st⟩ := F.st
  obtain ⟨f_fo, d_fo, x_fo⟩ := F.fo
  obtain ⟨f_rd, d_rd, x_rd⟩ := F.rd
  obtain ⟨f_sz, d_sz, x_sz⟩ := F.sz
  obtain ⟨f_su, d_su, x_su⟩ := F.su
  obtain ⟨f_en, d_en, x_en⟩ := F.en
  obtain ⟨f_sp, d_sp, x_sp⟩ := F.sp
  obtain ⟨f_rs, d_rs, x_rs⟩ := F.rs
  obtain ⟨f_be, d_be, x_be⟩ := F.be
  obtain ⟨f_al, d_al, x_al⟩ := F.al
  obtain ⟨f_jo, d_jo, x_jo⟩ := F.jo
  obtain ⟨f_es, d_es, x_es⟩ := F.es
  obtain ⟨f_so, d_so, x_so⟩ := F.so
  obtain ⟨f_iss, d_iss, x_iss, w_iss⟩ := F.iss
  obtain ⟨f_se, d_se, x_se⟩ := F.se
  obtain ⟨f_la, d_la, x_la⟩ := F.la
  obtain ⟨f_lg, d_lg, x_lg⟩ := F.lg
  obtain ⟨f_sw, d_sw, x_sw⟩ := F.sw
  obtain ⟨f_ll, d_ll, x_ll⟩ := F.ll
  obtain ⟨f_box, d_box, x_box⟩ := F.box
  obtain ⟨f_take, d_take, x_take⟩ := F.take
  obtain ⟨f_pick, d_pick, x_pick⟩ := F.pick
  obtain ⟨f_rf, d_rf, x_rf⟩ := F.rf
  obtain ⟨f_bent, d_bent, x_bent⟩ := F.bent
  obtain ⟨f_ish, d_ish, c_ish, b_ish, g_ish⟩ := F.ish
  obtain ⟨f_asp, d_asp, c_asp, b_asp, g_asp⟩ := F.asp
  obtain ⟨Cr, CF, fI, dI, RC, FI, bI, mC, mF, kit, exm⟩ := F.cls
  have x_ish : Fns K mg "is_shape" ["keep", "laid", "value"] sIsShape f_ish d_ish := ⟨c_ish.fn, b_ish, g_ish⟩
  have x_asp : Fns K mg "are_spans" ["value"] sAreSpans f_asp d_asp := ⟨c_asp.fn, b_asp, g_asp⟩
  have gNN : FnOk P w K mg base CX0 3 f_nn d_nn ["value"] (spV pNat) := ok_need_number M G x_nn.fn x_num x_int
  have gNK : FnOk P w K mg base CX0 3 f_nk d_nk ["keep"] (spV pKeep) := ok_need_keep M G x_nk.fn x_ik x_int
  have gSF : FnOk P w K mg base CX0 5 f_sf d_sf ["keep", "first", "laid"] (spSh pShape) := ok_shape_from M G x_sf.fn x_co x_nk x_ik x_int
  have B : Base P w K mg base f_nn f_nk f_sf d_nn d_nk d_sf := ⟨gNN, gNK, gSF⟩
  have gSt : PF P w K mg base 3 f_st d_st ["value"] pStretch := pf_is_stretch M G x_st.fn x_par.fn x_par.bd x_par.mg x_num.fn x_num.bd x_num.mg x_seq.fn x_seq.bd x_seq.mg x_int.fn x_int.bd x_int.mg
  have gFO : FnOk P w K mg base CX0 1 f_fo d_fo ["some", "laid"] (spV (pFirst K)) := ok_first_of G x_fo.fn
  have gIS : FnOk P w K mg base CX0 6 f_ish d_ish ["keep", "laid", "value"] (spShapeP K T0) := ok_is_shapeP M G c_ish TB0 B x_nk x_nn x_sf x_seq x_st gSt x_fo gFO
  have gSp : PF P w K mg base 4 f_sp d_sp ["value"] pSpan := pf_is_span M G MV G.sum x_sp.fn x_par x_num x_int x_sz x_rd x_su x_en x_seq
  have gSpX : PF P w K mg base 4 f_sp d_sp ["value"] K13X.pSpan := K13X.pf_is_span M G MV G.sum x_sp.fn x_par x_num x_int x_sz x_rd x_su x_en x_seq
  have gAS : FnOk P w K mg base CX0 6 f_asp d_asp ["value"] (K13X.spAreS K Z) := K13X.ok_are_spans M G c_asp TB1 m1 np x_seq x_sp gSpX
  have gAl : FnOk P w K mg base CX0 2 f_al d_al ["spans"] (spAll K) := ok_span_of_all G G.sum x_al.fn x_be
  have gJo : FnOk P w K mg base CX0 5 f_jo d_jo ["one", "other"] (spJoin K) := ok_join M x_jo.fn x_sp gSp x_be x_al gAl
  have gSe : FnOk P w K mg base CX0 6 f_se d_se ["spans", "keep"] (spSettled Rl) := ok_settled G x_se.fn x_jo gJo
  have CES : Cal P w K mg base "empty_store" [] sEmptyStore 1 spEmpty f_es d_es := ⟨x_es, ok_empty x_es.fn⟩
  have gSO : FnOk P w K mg base CX0 1 f_so d_so ["store"] (spShapeOf K) := ok_shape_of G x_so.fn
  have CLay : Cal P w K mg base "lay" ["store", "keep", "stamp", "value"] sLay 7 (spLay Rl) f_la d_la := ⟨x_la, ok_lay M G MV x_la.fn x_nk gNK x_num x_int x_rd x_rs x_se gSe⟩
  have gLG : FnOk P w K mg base CX0 4 f_lg d_lg ["store", "below"] spLetGo := ok_let_go G x_lg.fn x_nn gNN x_be
  have CLA : Cal P w K mg base "laid_all" ["keep", "rows"] sLaidAll 8 (spLaidAll K) f_ll d_ll := ⟨x_ll, ok_laid_all x_ll.fn x_nk gNK x_es CES.ok x_lg gLG x_la CLay.ok⟩
  have CIS : Cal P w K mg base "is_store" ["keep", "value"] sIsStore 7 (spIsStoreX K Z) f_iss d_iss := ⟨x_iss, ok_is_storeX m0 np M G x_iss.fn B x_nk x_par x_seq x_num x_int x_asp gAS x_ish gIS x_so gSO⟩
  have CISh : Cal P w K mg base "is_shape" ["keep", "laid", "value"] sIsShape 6 (spShapeP K T0) f_ish d_ish := ⟨x_ish, gIS⟩
  have gI : FnOk P w K mg base CX0 1 fI dI ["self", "at"] (spInitAt Cr) := ok_init RC FI
  have CNum : Cal P w K mg base "is_number" ["value"] sIsNumber 2 (spPure P w base ["value"] pNumber) f_num d_num := ⟨x_num, (pf_is_number M G x_num.fn x_int.fn x_int.bd x_int.mg).ok⟩
  have CIK : Cal P w K mg base "is_keep" ["value"] sIsKeep 2 (spPure P w base ["value"] pKeepF) f_ik d_ik := ⟨x_ik, (pf_is_keep M G x_ik.fn x_int).ok⟩
  have CRd : Cal P w K mg base "is_reading" ["value"] sIsReading 2 (spPure P w base ["value"] K13X.pReading) f_rd d_rd := ⟨x_rd, (K13X.pf_is_reading M G MV x_rd.fn x_int).ok⟩
  have XNN : CalX P w K mg base "need_number" ["value"] sNeedNumber 3 (spNeed K Z Cr isNum) f_nn d_nn := ⟨x_nn, ok_needN M G RC gI bI mC x_nn.fn CNum⟩
  have XNK : CalX P w K mg base "need_keep" ["keep"] sNeedKeep 3 (spNeed K Z Cr keepB) f_nk d_nk := ⟨x_nk, ok_needK RC gI bI mC x_nk.fn CIK⟩
  have XLay : CalX P w K mg base "lay" ["store", "keep", "stamp", "value"] sLay 4 (spBad Z Cr pBadLay) f_la d_la := ⟨x_la, ok_badLay RC gI bI mC x_la.fn XNK CNum CRd⟩
  have XIS : CalX P w K mg base "is_store" ["keep", "value"] sIsStore 4 (spBad Z Cr pBad2) f_iss d_iss := ⟨x_iss, ok_badStore x_iss.fn XNK⟩
  have XLA : CalX P w K mg base "laid_all" ["keep", "rows"] sLaidAll 4 (spBad Z Cr pBad2) f_ll d_ll := ⟨x_ll, ok_badLaid x_ll.fn XNK⟩
  have XLG : CalX P w K mg base "let_go" ["store", "below"] sLetGo 4 (spBad Z Cr pBadGo) f_lg d_lg := ⟨x_lg, ok_badGo x_lg.fn XNN⟩
  have XSW : CalX P w K mg base "span_with" ["store", "row"] sSpanWith 3 (spBad Z Cr pBadRow) f_sw d_sw := ⟨x_sw, ok_badRow RC gI bI mC x_sw.fn CNum⟩
  have CBox : Cal P w K mg base "_law_box" ["_law_script", "_law_k"] sBox 1 (spBox K ns) f_box d_box := ⟨x_box, ok_box G x_box.fn⟩
  have CT : Cal P w K mg base "_law_take" ["_law_box_here", "_law_many"] sTake 1 spTake f_take d_take := ⟨x_take, ok_take G x_take.fn⟩
  have CP : Cal P w K mg base "_law_pick" ["_law_box_here", "_law_some"] sPick 2 spPick f_pick d_pick := ⟨x_pick, ok_pick G x_pick.fn x_take⟩
  have CBe : Cal P w K mg base "_law_bent" ["_law_box_here", "_law_store"] sLBent 3 (spBent K) f_bent d_bent := ⟨x_bent, ok_bent G x_bent.fn CT CP⟩
  have R : Rf K mg base Z (LX P w K mg base fa (.ref c2) s H) Cr CF fI f_rf c2 d_rf := ⟨x_rf.fn, x_rf.mg, x_rf.bd, RC, mC, mF, kit, exm, TL, np, hq⟩
  have b5 : Tis (LX P w K mg base fa (.ref c2) s H) (bodyOf (inS 5)) (B4 K Z a ns) (B4 K Z a ns) := Tis.cons (in_50 hr CBe) (Tis.one (in_51 hr G CIS w_iss))
  have b0 : Tis (LX P w K mg base fa (.ref c2) s H) (bodyOf (lawS 0)) (fun i σ H => A0 K Z a ns i σ H ∧ σ[1]? = some (some (.int (i : Int))) ∧ i < 4) (fun i => A0 K Z a ns (i + 1)) :=
    Tis.cons (in_0 hr CBox hn) (Tis.cons (in_1 hr CT) (Tis.cons (in_2 hr G CT) (Tis.cons (in_3 hr G CT) (Tis.cons (in_4 hr CLA) (Tis.cons (in_5 hr G b5) (Tis.cons (in_6 hr CP) (Tis.cons (in_7 hrX G XLay R) (Tis.cons (in_8 hr CP) (Tis.cons (in_9 hrX G XLay R) (Tis.cons (in_10 hr CP) (Tis.cons (in_11 hrX G XLay R) (Tis.cons (in_12 hrX G XIS R) (Tis.cons (in_13 hrX G XLA R) (Tis.cons (in_14 hr CP) (Tis.cons (in_15 hrX G XLG R) (Tis.cons (in_16 hr CP) (Tis.one (in_17 hrX G XSW R))))))))))))))))))
  have bd : Te (LX P w K mg base fa (.ref c2) s H) (defBody sLaw) (A0 K Z a ns) := Te.cons (ti_0 G b0) (Te.one (end_1 hr CLay CES CISh m0))
  obtain ⟨tb, hb1, hb2⟩ := bd
  refine ⟨_, hb1, ?_⟩
  refine hb2 0 _ _ _ ?_ fun H'' => rfl
  have na : a ∉ [a + 1] := fun h => by
    have z := List.mem_singleton.mp h
    exact absurd z (by simp)
  exact ⟨a + 1, rfl, rfl, hz, kp_L na hS⟩
end
theorem walk {l : PySem.W.OpenLaw} {q : Program} {loose : List Str} {XP : (Str → Option Value) → Heap → Prop} {YP : World → Heap → Prop} {d d0 d1 d2 : DefRec} {K : Params → PySem.W.Frag} (hn : l.most = some 63) (hdf : d.params.defaults = []) (hd0 : (recsOf q).find? (fun e => e.name == ("is_shape" : Str)) = some d0) (hd1 : (recsOf q).find? (fun e => e.name == ("are_spans" : Str)) = some d1) (hd2 : (recsOf q).find? (fun e => e.name == ("law" : Str)) = some d2)
    (hY : ∀ (w : World) (h : Heap), YP w h → (K w.params).In h)
    (F : ∀ (w : World) (mg : Str → Option Value) (fa : Addr) (h : Heap), (K w.params).In h → h.Ns mainGlobals mg → mg d.name = some (.ref fa) →
      ∃ (fd : FuncData) (c0 T0 : Addr) (c1 T1 : Addr) (c2 T2 : Addr), FunC (K w.params) "law" "law" sLaw fa fd c2 ∧ (∀ (s : Shared) (u : Value), BindsTo s fd ⟨[u], []⟩ [("_law_script", u)]) ∧ AllF (K w.params) mg c0 c1 c2 ∧ PySem.W.tabIn (K w.params) "is_shape" = some (c0, T0) ∧ (K w.params).lookup T0 = none ∧ PySem.W.tabIn (K w.params) "are_spans" = some (c1, T1) ∧ (K w.params).lookup T1 = none ∧ PySem.W.tabIn (K w.params) "law" = some (c2, T2) ∧ (K w.params).lookup T2 = none ∧ T0 ≠ T1 ∧ T0 ≠ T2 ∧ T1 ≠ T2) :
    PySem.W.WalkO q loose XP YP l.row.toRowW d [] (fun f vs => PySem.call f vs) := by
  refine Att.attach_callB hn hdf fun w s₀ s₁ mg mb fa o pm cd doc a vs ns G Y ho hd hcd hmg hobj hints hlen hbits hg => ?_
  have KX := hY w _ Y
  obtain ⟨fd, c0, T0, c1, T1, c2, T2, Fn, hb, A, ht0, nT0, ht1, nT1, ht2, nT2, ne01, ne02, ne12⟩ := F w mg fa _ KX G.T.g hmg
  obtain ⟨C0, hT0⟩ := PySem.W.tab_of G.T KX hd0 ht0
  obtain ⟨C1, hT1⟩ := PySem.W.tab_of G.T KX hd1 ht1
  obtain ⟨C2, hT2⟩ := PySem.W.tab_of G.T KX hd2 ht2
  have one : Bare [(c0, T0), (c1, T1), (c2, T2)] (K w.params) _ := fun p hp => by
    rcases List.mem_cons.mp hp with z | hp
    · rw [z]; exact ⟨⟨hT0, nT0⟩, C0⟩
    rcases List.mem_cons.mp hp with z | hp
    · rw [z]; exact ⟨⟨hT1, nT1⟩, C1⟩
    rcases List.mem_cons.mp hp with z | hp
    · rw [z]; exact ⟨⟨hT2, nT2⟩, C2⟩
    · cases hp
  have hr : Room 12 callerA := ⟨rfl, by decide, by decide⟩
  exact law_endC (cs := [(c0, T0), (c1, T1), (c2, T2)]) KX G.T.g G.T.b G.T.builtins G.T.nolimit hg one G.T.bmain hobj hints (Nat.le_trans hlen (by decide)) Fn scLaw hb (hr.mono (by decide)) (body A ne01 ne02 ne12 (by omega) hr)
end K13
set_option Elab.async false
set_option linter.all false
set_option maxRecDepth 100000
set_option maxHeartbeats 4000000
namespace K13
open PySem PySem.Spec PyProof.Rows L2 GxR Pu Evl
theorem allf {K : PySem.W.Frag} {h : Heap} {mg : Str → Option Value} {f0 c0 : Addr} {od0 an0 : Option Addr} {sl0 : Array (Option Value)} {oc0 kV0 dc0 pm0 ct0 : Value} {f1 c1 : Addr} {od1 an1 : Option Addr} {sl1 : Array (Option Value)} {oc1 kV1 dc1 pm1 ct1 : Value} {f2 c2 : Addr} {od2 an2 : Option Addr} {sl2 : Array (Option Value)} {oc2 kV2 dc2 pm2 ct2 : Value} (X : K.In h) (G : h.Ns mainGlobals mg)
    (d_int : DefIn K "is_integer" sIsInteger)
    (d_num : DefIn K "is_number" sIsNumber)
    (d_seq : DefIn K "is_sequence" sIsSequence)
    (d_par : DefIn K "is_of_parts" sIsOfParts)
    (d_nn : DefIn K "need_number" sNeedNumber)
    (d_ik : DefIn K "is_keep" sIsKeep)
    (d_nk : DefIn K "need_keep" sNeedKeep)
    (d_co : DefIn K "counts_of" sCountsOf)
    (d_sf : DefIn K "shape_from" sShapeFrom)
    (d_st : DefIn K "is_stretch" sIsStretch)
    (d_fo : DefIn K "first_of" sFirstOf)
    (d_rd : DefIn K "is_reading" sIsReading)
    (d_sz : DefIn K "is_size" sIsSize)
    (d_su : DefIn K "sums_with" sSumsWith)
    (d_en : DefIn K "ends_of" sEndsOf)
    (d_sp : DefIn K "is_span" sIsSpan)
    (d_rs : DefIn K "row_span" sRowSpan)
    (d_be : DefIn K "behind" sBehind)
    (d_al : DefIn K "span_of_all" sSpanOfAll)
    (d_jo : DefIn K "join" sJoin)
    (d_es : DefIn K "empty_store" sEmptyStore)
    (d_so : DefIn K "shape_of" sShapeOf)
    (d_iss : DefIn K "is_store" sIsStore)
    (d_se : DefIn K "settled" sSettled)
    (d_la : DefIn K "lay" sLay)
    (d_lg : DefIn K "let_go" sLetGo)
    (d_sw : DefIn K "span_with" sSpanWith)
    (d_ll : DefIn K "laid_all" sLaidAll)
    (d_box : DefIn K "_law_box" sBox)
    (d_take : DefIn K "_law_take" sTake)
    (d_pick : DefIn K "_law_pick" sPick)
    (d_rf : DefIn K "_law_refused" sLRefused)
    (d_bent : DefIn K "_law_bent" sLBent)
    (a_ish : PySem.W.nsIn K mainGlobals "is_shape" = some (some (.ref f0))) (l_ish : K.lookup f0 = some ⟨oc0, od0, .func (PySem.W.fnOf "is_shape" "is_shape" (defArgs sIsShape) (defBody sIsShape) (defScope sIsShape) .none kV0 dc0 pm0 an0 (.ref c0) ct0), sl0⟩) (c_ish : PySem.W.codeIn K (.ref c0) "is_shape" = true) (k_ish : PySem.W.keepIn K (.ref f0) = true)
    (a_asp : PySem.W.nsIn K mainGlobals "are_spans" = some (some (.ref f1))) (l_asp : K.lookup f1 = some ⟨oc1, od1, .func (PySem.W.fnOf "are_spans" "are_spans" (defArgs sAreSpans) (defBody sAreSpans) (defScope sAreSpans) .none kV1 dc1 pm1 an1 (.ref c1) ct1), sl1⟩) (c_asp : PySem.W.codeIn K (.ref c1) "are_spans" = true) (k_asp : PySem.W.keepIn K (.ref f1) = true)
    (a_lw : PySem.W.nsIn K mainGlobals "law" = some (some (.ref f2))) (l_lw : K.lookup f2 = some ⟨oc2, od2, .func (PySem.W.fnOf "law" "law" (defArgs sLaw) (defBody sLaw) (defScope sLaw) .none kV2 dc2 pm2 an2 (.ref c2) ct2), sl2⟩) (c_lw : PySem.W.codeIn K (.ref c2) "law" = true) (k_lw : PySem.W.keepIn K (.ref f2) = true)
    (d_cls : ClsIn K)
    (q_MOST_VALUE : ∃ u, PySem.W.nsIn K mainGlobals "MOST_VALUE" = some (some u) ∧ RelV (.int 1000000) u)
    (z_isinstance : PySem.W.nsIn K mainGlobals "isinstance" = some none)
    (z_int : PySem.W.nsIn K mainGlobals "int" = some none)
    (z_bool : PySem.W.nsIn K mainGlobals "bool" = some none)
    (z_list : PySem.W.nsIn K mainGlobals "list" = some none)
    (z_tuple : PySem.W.nsIn K mainGlobals "tuple" = some none)
    (z_len : PySem.W.nsIn K mainGlobals "len" = some none)
    (z_range : PySem.W.nsIn K mainGlobals "range" = some none)
    (z_enumerate : PySem.W.nsIn K mainGlobals "enumerate" = some none)
    (z_reversed : PySem.W.nsIn K mainGlobals "reversed" = some none)
    (z_all : PySem.W.nsIn K mainGlobals "all" = some none)
    (z_abs : PySem.W.nsIn K mainGlobals "abs" = some none)
    (z_max : PySem.W.nsIn K mainGlobals "max" = some none)
    (z_min : PySem.W.nsIn K mainGlobals "min" = some none)
    (z_set : PySem.W.nsIn K mainGlobals "set" = some none)
    (z_repr : PySem.W.nsIn K mainGlobals "repr" = some none)
    (z_any : PySem.W.nsIn K mainGlobals "any" = some none)
    (z_zip : PySem.W.nsIn K mainGlobals "zip" = some none)
    (z_sum : PySem.W.nsIn K mainGlobals "sum" = some none)
    (z_sorted : PySem.W.nsIn K mainGlobals "sorted" = some none)
    : AllF K mg c0 c1 c2 where
  g := ⟨PySem.W.mg_none_of X G z_isinstance, PySem.W.mg_none_of X G z_int, PySem.W.mg_none_of X G z_bool, PySem.W.mg_none_of X G z_list, PySem.W.mg_none_of X G z_tuple, PySem.W.mg_none_of X G z_len, PySem.W.mg_none_of X G z_range, PySem.W.mg_none_of X G z_enumerate, PySem.W.mg_none_of X G z_reversed, PySem.W.mg_none_of X G z_all, PySem.W.mg_none_of X G z_abs, PySem.W.mg_none_of X G z_max, PySem.W.mg_none_of X G z_min, PySem.W.mg_none_of X G z_set, PySem.W.mg_none_of X G z_repr, PySem.W.mg_none_of X G z_any, PySem.W.mg_none_of X G z_zip, PySem.W.mg_none_of X G z_sum, PySem.W.mg_none_of X G z_sorted⟩
  k_MOST_VALUE := by obtain ⟨u, e, r⟩ := q_MOST_VALUE; exact ⟨u, PySem.W.mg_of X G e, r⟩
  int := d_int.fx X G (fun _ _ _ _ _ _ us hl => match us, hl with | [_], _ => rfl)
  num := d_num.fx X G (fun _ _ _ _ _ _ us hl => match us, hl with | [_], _ => rfl)
  seq := d_seq.fx X G (fun _ _ _ _ _ _ us hl => match us, hl with | [_], _ => rfl)
  par := d_par.fx X G (fun _ _ _ _ _ _ us hl => match us, hl with | [_, _], _ => rfl)
  nn := d_nn.fx X G (fun _ _ _ _ _ _ us hl => match us, hl with | [_], _ => rfl)
  ik := d_ik.fx X G (fun _ _ _ _ _ _ us hl => match us, hl with | [_], _ => rfl)
  nk := d_nk.fx X G (fun _ _ _ _ _ _ us hl => match us, hl with | [_], _ => rfl)
  co := d_co.fx X G (fun _ _ _ _ _ _ us hl => match us, hl with | [_, _], _ => rfl)
  sf := d_sf.fx X G (fun _ _ _ _ _ _ us hl => match us, hl with | [_, _, _], _ => rfl)
  st := d_st.fx X G (fun _ _ _ _ _ _ us hl => match us, hl with | [_], _ => rfl)
  fo := d_fo.fx X G (fun _ _ _ _ _ _ us hl => match us, hl with | [_, _], _ => rfl)
  rd := d_rd.fx X G (fun _ _ _ _ _ _ us hl => match us, hl with | [_], _ => rfl)
  sz := d_sz.fx X G (fun _ _ _ _ _ _ us hl => match us, hl with | [_], _ => rfl)
  su := d_su.fx X G (fun _ _ _ _ _ _ us hl => match us, hl with | [_, _, _, _], _ => rfl)
  en := d_en.fx X G (fun _ _ _ _ _ _ us hl => match us, hl with | [_, _], _ => rfl)
  sp := d_sp.fx X G (fun _ _ _ _ _ _ us hl => match us, hl with | [_], _ => rfl)
  rs := d_rs.fx X G (fun _ _ _ _ _ _ us hl => match us, hl with | [_, _], _ => rfl)
  be := d_be.fx X G (fun _ _ _ _ _ _ us hl => match us, hl with | [_], _ => rfl)
  al := d_al.fx X G (fun _ _ _ _ _ _ us hl => match us, hl with | [_], _ => rfl)
  jo := d_jo.fx X G (fun _ _ _ _ _ _ us hl => match us, hl with | [_, _], _ => rfl)
  es := d_es.fx X G (fun _ _ _ _ _ _ us hl => match us, hl with | [], _ => rfl)
  so := d_so.fx X G (fun _ _ _ _ _ _ us hl => match us, hl with | [_], _ => rfl)
  iss := d_iss.fk X G (fun _ _ _ _ _ _ us hl => match us, hl with | [_, _], _ => rfl) (fun _ _ _ _ _ _ us hl => match us, hl with | [_, _], _ => rfl) (by decide)
  se := d_se.fx X G (fun _ _ _ _ _ _ us hl => match us, hl with | [_, _], _ => rfl)
  la := d_la.fx X G (fun _ _ _ _ _ _ us hl => match us, hl with | [_, _, _, _], _ => rfl)
  lg := d_lg.fx X G (fun _ _ _ _ _ _ us hl => match us, hl with | [_, _], _ => rfl)
  sw := d_sw.fx X G (fun _ _ _ _ _ _ us hl => match us, hl with | [_, _], _ => rfl)
  ll := d_ll.fx X G (fun _ _ _ _ _ _ us hl => match us, hl with | [_, _], _ => rfl)
  box := d_box.fx X G (fun _ _ _ _ _ _ us hl => match us, hl with | [_, _], _ => rfl)
  take := d_take.fx X G (fun _ _ _ _ _ _ us hl => match us, hl with | [_, _], _ => rfl)
  pick := d_pick.fx X G (fun _ _ _ _ _ _ us hl => match us, hl with | [_, _], _ => rfl)
  rf := d_rf.fx X G (fun _ _ _ _ _ _ us hl => match us, hl with | [_], _ => rfl)
  bent := d_bent.fx X G (fun _ _ _ _ _ _ us hl => match us, hl with | [_, _], _ => rfl)
  cls := by
    obtain ⟨Cr, CF, fI, dI, h1, h2, h3, h4, h5, h6, h7⟩ := d_cls
    exact ⟨Cr, CF, fI, dI, h1, h2, h3, PySem.W.mg_of X G h4, PySem.W.mg_of X G h5, h6, h7⟩
  ish := ⟨f0, _, ⟨⟨oc0, od0, kV0, dc0, pm0, an0, ct0, sl0, rfl, l_ish, c_ish⟩, k_ish⟩, (fun_mk (st := sIsShape) l_ish c_ish k_ish).binds (fun _ _ _ _ _ _ us hl => match us, hl with | [_, _, _], _ => rfl), PySem.W.mg_of X G a_ish⟩
  asp := ⟨f1, _, ⟨⟨oc1, od1, kV1, dc1, pm1, an1, ct1, sl1, rfl, l_asp, c_asp⟩, k_asp⟩, (fun_mk (st := sAreSpans) l_asp c_asp k_asp).binds (fun _ _ _ _ _ _ us hl => match us, hl with | [_], _ => rfl), PySem.W.mg_of X G a_asp⟩
theorem fin {K : PySem.W.Frag} {h : Heap} {mg : Str → Option Value} {fa : Addr} {f0 c0 : Addr} {od0 an0 : Option Addr} {sl0 : Array (Option Value)} {oc0 kV0 dc0 pm0 ct0 : Value} {f1 c1 : Addr} {od1 an1 : Option Addr} {sl1 : Array (Option Value)} {oc1 kV1 dc1 pm1 ct1 : Value} {f2 c2 : Addr} {od2 an2 : Option Addr} {sl2 : Array (Option Value)} {oc2 kV2 dc2 pm2 ct2 : Value} {T0 : Addr} {cc0 : Value} {oe0 : Option Addr} {vs0 : Array Value} {sm0 : Array (Option Value)} {T1 : Addr} {cc1 : Value} {oe1 : Option Addr} {vs1 : Array Value} {sm1 : Array (Option Value)} {T2 : Addr} {cc2 : Value} {oe2 : Option Addr} {vs2 : Array Value} {sm2 : Array (Option Value)} (X : K.In h) (G : h.Ns mainGlobals mg) (hfa : mg "law" = some (.ref fa))
    (d_int : DefIn K "is_integer" sIsInteger)
    (d_num : DefIn K "is_number" sIsNumber)
    (d_seq : DefIn K "is_sequence" sIsSequence)
    (d_par : DefIn K "is_of_parts" sIsOfParts)
    (d_nn : DefIn K "need_number" sNeedNumber)
    (d_ik : DefIn K "is_keep" sIsKeep)
    (d_nk : DefIn K "need_keep" sNeedKeep)
    (d_co : DefIn K "counts_of" sCountsOf)
    (d_sf : DefIn K "shape_from" sShapeFrom)
    (d_st : DefIn K "is_stretch" sIsStretch)
    (d_fo : DefIn K "first_of" sFirstOf)
    (d_rd : DefIn K "is_reading" sIsReading)
    (d_sz : DefIn K "is_size" sIsSize)
    (d_su : DefIn K "sums_with" sSumsWith)
    (d_en : DefIn K "ends_of" sEndsOf)
    (d_sp : DefIn K "is_span" sIsSpan)
    (d_rs : DefIn K "row_span" sRowSpan)
    (d_be : DefIn K "behind" sBehind)
    (d_al : DefIn K "span_of_all" sSpanOfAll)
    (d_jo : DefIn K "join" sJoin)
    (d_es : DefIn K "empty_store" sEmptyStore)
    (d_so : DefIn K "shape_of" sShapeOf)
    (d_iss : DefIn K "is_store" sIsStore)
    (d_se : DefIn K "settled" sSettled)
    (d_la : DefIn K "lay" sLay)
    (d_lg : DefIn K "let_go" sLetGo)
    (d_sw : DefIn K "span_with" sSpanWith)
    (d_ll : DefIn K "laid_all" sLaidAll)
    (d_box : DefIn K "_law_box" sBox)
    (d_take : DefIn K "_law_take" sTake)
    (d_pick : DefIn K "_law_pick" sPick)
    (d_rf : DefIn K "_law_refused" sLRefused)
    (d_bent : DefIn K "_law_bent" sLBent)
    (a_ish : PySem.W.nsIn K mainGlobals "is_shape" = some (some (.ref f0))) (l_ish : K.lookup f0 = some ⟨oc0, od0, .func (PySem.W.fnOf "is_shape" "is_shape" (defArgs sIsShape) (defBody sIsShape) (defScope sIsShape) .none kV0 dc0 pm0 an0 (.ref c0) ct0), sl0⟩) (c_ish : PySem.W.codeIn K (.ref c0) "is_shape" = true) (k_ish : PySem.W.keepIn K (.ref f0) = true)
    (a_asp : PySem.W.nsIn K mainGlobals "are_spans" = some (some (.ref f1))) (l_asp : K.lookup f1 = some ⟨oc1, od1, .func (PySem.W.fnOf "are_spans" "are_spans" (defArgs sAreSpans) (defBody sAreSpans) (defScope sAreSpans) .none kV1 dc1 pm1 an1 (.ref c1) ct1), sl1⟩) (c_asp : PySem.W.codeIn K (.ref c1) "are_spans" = true) (k_asp : PySem.W.keepIn K (.ref f1) = true)
    (a_lw : PySem.W.nsIn K mainGlobals "law" = some (some (.ref f2))) (l_lw : K.lookup f2 = some ⟨oc2, od2, .func (PySem.W.fnOf "law" "law" (defArgs sLaw) (defBody sLaw) (defScope sLaw) .none kV2 dc2 pm2 an2 (.ref c2) ct2), sl2⟩) (c_lw : PySem.W.codeIn K (.ref c2) "law" = true) (k_lw : PySem.W.keepIn K (.ref f2) = true)
    (d_cls : ClsIn K)
    (q_MOST_VALUE : ∃ u, PySem.W.nsIn K mainGlobals "MOST_VALUE" = some (some u) ∧ RelV (.int 1000000) u)
    (z_isinstance : PySem.W.nsIn K mainGlobals "isinstance" = some none)
    (z_int : PySem.W.nsIn K mainGlobals "int" = some none)
    (z_bool : PySem.W.nsIn K mainGlobals "bool" = some none)
    (z_list : PySem.W.nsIn K mainGlobals "list" = some none)
    (z_tuple : PySem.W.nsIn K mainGlobals "tuple" = some none)
    (z_len : PySem.W.nsIn K mainGlobals "len" = some none)
    (z_range : PySem.W.nsIn K mainGlobals "range" = some none)
    (z_enumerate : PySem.W.nsIn K mainGlobals "enumerate" = some none)
    (z_reversed : PySem.W.nsIn K mainGlobals "reversed" = some none)
    (z_all : PySem.W.nsIn K mainGlobals "all" = some none)
    (z_abs : PySem.W.nsIn K mainGlobals "abs" = some none)
    (z_max : PySem.W.nsIn K mainGlobals "max" = some none)
    (z_min : PySem.W.nsIn K mainGlobals "min" = some none)
    (z_set : PySem.W.nsIn K mainGlobals "set" = some none)
    (z_repr : PySem.W.nsIn K mainGlobals "repr" = some none)
    (z_any : PySem.W.nsIn K mainGlobals "any" = some none)
    (z_zip : PySem.W.nsIn K mainGlobals "zip" = some none)
    (z_sum : PySem.W.nsIn K mainGlobals "sum" = some none)
    (z_sorted : PySem.W.nsIn K mainGlobals "sorted" = some none)
    (m_ish : K.lookup c0 = some ⟨cc0, oe0, .fields vs0, sm0⟩) (h_ish : (vs0[11]? : Option Value) = some (.ref T0)) (n_ish : K.lookup T0 = none)
    (m_asp : K.lookup c1 = some ⟨cc1, oe1, .fields vs1, sm1⟩) (h_asp : (vs1[11]? : Option Value) = some (.ref T1)) (n_asp : K.lookup T1 = none)
    (m_lw : K.lookup c2 = some ⟨cc2, oe2, .fields vs2, sm2⟩) (h_lw : (vs2[11]? : Option Value) = some (.ref T2)) (n_lw : K.lookup T2 = none)
    (ne01 : T0 ≠ T1)
    (ne02 : T0 ≠ T2)
    (ne12 : T1 ≠ T2)
    : ∃ (fd : FuncData) (c0 T0 : Addr) (c1 T1 : Addr) (c2 T2 : Addr), FunC K "law" "law" sLaw fa fd c2 ∧ (∀ (s : Shared) (u : Value), BindsTo s fd ⟨[u], []⟩ [("_law_script", u)]) ∧ AllF K mg c0 c1 c2 ∧ PySem.W.tabIn K "is_shape" = some (c0, T0) ∧ K.lookup T0 = none ∧ PySem.W.tabIn K "are_spans" = some (c1, T1) ∧ K.lookup T1 = none ∧ PySem.W.tabIn K "law" = some (c2, T2) ∧ K.lookup T2 = none ∧ T0 ≠ T1 ∧ T0 ≠ T2 ∧ T1 ≠ T2 := by
  have e := hfa.symm.trans (PySem.W.mg_of X G a_lw)
  cases e
  exact ⟨_, c0, T0, c1, T1, c2, T2, ⟨⟨oc2, od2, kV2, dc2, pm2, an2, ct2, sl2, rfl, l_lw, c_lw⟩, k_lw⟩, fun s v => .of_eq rfl, allf X G d_int d_num d_seq d_par d_nn d_ik d_nk d_co d_sf d_st d_fo d_rd d_sz d_su d_en d_sp d_rs d_be d_al d_jo d_es d_so d_iss d_se d_la d_lg d_sw d_ll d_box d_take d_pick d_rf d_bent a_ish l_ish c_ish k_ish a_asp l_asp c_asp k_asp a_lw l_lw c_lw k_lw d_cls q_MOST_VALUE z_isinstance z_int z_bool z_list z_tuple z_len z_range z_enumerate z_reversed z_all z_abs z_max z_min z_set z_repr z_any z_zip z_sum z_sorted, tab_mk a_ish l_ish rfl m_ish h_ish, n_ish, tab_mk a_asp l_asp rfl m_asp h_asp, n_asp, tab_mk a_lw l_lw rfl m_lw h_lw, n_lw, ne01, ne02, ne12⟩
end K13
open PySem PySem.W PyProof.Rows in
set_option maxRecDepth 100000 in
set_option maxHeartbeats 0 in
theorem PySem.Challenge.cw_farstory_k13_stores_that_are_none_holds : PySem.Challenge.rw_farstory_k13_stores_that_are_none.Holds := by
  w_on; o_law; k_head; (case hw => w_witness2)
  k_fill
  refine K13.walk (l := PySem.Challenge.rw_farstory_k13_stores_that_are_none) rfl rfl rfl rfl rfl (fun w h Y => PySem.W.km_in_of Y) ?F
  case F =>
    intro w mg fa h KX G hmg
    refine' K13.fin KX G hmg ?d_int ?d_num ?d_seq ?d_par ?d_nn ?d_ik ?d_nk ?d_co ?d_sf ?d_st ?d_fo ?d_rd ?d_sz ?d_su ?d_en ?d_sp ?d_rs ?d_be ?d_al ?d_jo ?d_es ?d_so ?d_iss ?d_se ?d_la ?d_lg ?d_sw ?d_ll ?d_box ?d_take ?d_pick ?d_rf ?d_bent ?a_ish ?l_ish ?c_ish ?k_ish ?a_asp ?l_asp ?c_asp ?k_asp ?a_lw ?l_lw ?c_lw ?k_lw ?d_cls ?q_MOST_VALUE ?z_isinstance ?z_int ?z_bool ?z_list ?z_tuple ?z_len ?z_range ?z_enumerate ?z_reversed ?z_all ?z_abs ?z_max ?z_min ?z_set ?z_repr ?z_any ?z_zip ?z_sum ?z_sorted ?m_ish ?h_ish ?n_ish ?m_asp ?h_asp ?n_asp ?m_lw ?h_lw ?n_lw ?ne01 ?ne02 ?ne12
    (case d_int => refine' K13.DefIn.mk ?a ?l ?c ?k; (case a => k_is); (case l => k_is); (case c => k_is); (case k => k_is))
    (case d_num => refine' K13.DefIn.mk ?a ?l ?c ?k; (case a => k_is); (case l => k_is); (case c => k_is); (case k => k_is))
    (case d_seq => refine' K13.DefIn.mk ?a ?l ?c ?k; (case a => k_is); (case l => k_is); (case c => k_is); (case k => k_is))
    (case d_par => refine' K13.DefIn.mk ?a ?l ?c ?k; (case a => k_is); (case l => k_is); (case c => k_is); (case k => k_is))
    (case d_nn => refine' K13.DefIn.mk ?a ?l ?c ?k; (case a => k_is); (case l => k_is); (case c => k_is); (case k => k_is))
    (case d_ik => refine' K13.DefIn.mk ?a ?l ?c ?k; (case a => k_is); (case l => k_is); (case c => k_is); (case k => k_is))
    (case d_nk => refine' K13.DefIn.mk ?a ?l ?c ?k; (case a => k_is); (case l => k_is); (case c => k_is); (case k => k_is))
    (case d_co => refine' K13.DefIn.mk ?a ?l ?c ?k; (case a => k_is); (case l => k_is); (case c => k_is); (case k => k_is))
    (case d_sf => refine' K13.DefIn.mk ?a ?l ?c ?k; (case a => k_is); (case l => k_is); (case c => k_is); (case k => k_is))
    (case d_st => refine' K13.DefIn.mk ?a ?l ?c ?k; (case a => k_is); (case l => k_is); (case c => k_is); (case k => k_is))
    (case d_fo => refine' K13.DefIn.mk ?a ?l ?c ?k; (case a => k_is); (case l => k_is); (case c => k_is); (case k => k_is))
    (case d_rd => refine' K13.DefIn.mk ?a ?l ?c ?k; (case a => k_is); (case l => k_is); (case c => k_is); (case k => k_is))
    (case d_sz => refine' K13.DefIn.mk ?a ?l ?c ?k; (case a => k_is); (case l => k_is); (case c => k_is); (case k => k_is))
    (case d_su => refine' K13.DefIn.mk ?a ?l ?c ?k; (case a => k_is); (case l => k_is); (case c => k_is); (case k => k_is))
    (case d_en => refine' K13.DefIn.mk ?a ?l ?c ?k; (case a => k_is); (case l => k_is); (case c => k_is); (case k => k_is))
    (case d_sp => refine' K13.DefIn.mk ?a ?l ?c ?k; (case a => k_is); (case l => k_is); (case c => k_is); (case k => k_is))
    (case d_rs => refine' K13.DefIn.mk ?a ?l ?c ?k; (case a => k_is); (case l => k_is); (case c => k_is); (case k => k_is))
    (case d_be => refine' K13.DefIn.mk ?a ?l ?c ?k; (case a => k_is); (case l => k_is); (case c => k_is); (case k => k_is))
    (case d_al => refine' K13.DefIn.mk ?a ?l ?c ?k; (case a => k_is); (case l => k_is); (case c => k_is); (case k => k_is))
    (case d_jo => refine' K13.DefIn.mk ?a ?l ?c ?k; (case a => k_is); (case l => k_is); (case c => k_is); (case k => k_is))
    (case d_es => refine' K13.DefIn.mk ?a ?l ?c ?k; (case a => k_is); (case l => k_is); (case c => k_is); (case k => k_is))
    (case d_so => refine' K13.DefIn.mk ?a ?l ?c ?k; (case a => k_is); (case l => k_is); (case c => k_is); (case k => k_is))
    (case d_iss => refine' K13.DefIn.mk ?a ?l ?c ?k; (case a => k_is); (case l => k_is); (case c => k_is); (case k => k_is))
    (case d_se => refine' K13.DefIn.mk ?a ?l ?c ?k; (case a => k_is); (case l => k_is); (case c => k_is); (case k => k_is))
    (case d_la => refine' K13.DefIn.mk ?a ?l ?c ?k; (case a => k_is); (case l => k_is); (case c => k_is); (case k => k_is))
    (case d_lg => refine' K13.DefIn.mk ?a ?l ?c ?k; (case a => k_is); (case l => k_is); (case c => k_is); (case k => k_is))
    (case d_sw => refine' K13.DefIn.mk ?a ?l ?c ?k; (case a => k_is); (case l => k_is); (case c => k_is); (case k => k_is))
    (case d_ll => refine' K13.DefIn.mk ?a ?l ?c ?k; (case a => k_is); (case l => k_is); (case c => k_is); (case k => k_is))
    (case d_box => refine' K13.DefIn.mk ?a ?l ?c ?k; (case a => k_is); (case l => k_is); (case c => k_is); (case k => k_is))
    (case d_take => refine' K13.DefIn.mk ?a ?l ?c ?k; (case a => k_is); (case l => k_is); (case c => k_is); (case k => k_is))
    (case d_pick => refine' K13.DefIn.mk ?a ?l ?c ?k; (case a => k_is); (case l => k_is); (case c => k_is); (case k => k_is))
    (case d_rf => refine' K13.DefIn.mk ?a ?l ?c ?k; (case a => k_is); (case l => k_is); (case c => k_is); (case k => k_is))
    (case d_bent => refine' K13.DefIn.mk ?a ?l ?c ?k; (case a => k_is); (case l => k_is); (case c => k_is); (case k => k_is))
    (case a_ish => k_is)
    (case l_ish => k_is)
    (case c_ish => k_is)
    (case k_ish => k_is)
    (case a_asp => k_is)
    (case l_asp => k_is)
    (case c_asp => k_is)
    (case k_asp => k_is)
    (case a_lw => k_is)
    (case l_lw => k_is)
    (case c_lw => k_is)
    (case k_lw => k_is)
    (case d_cls => refine' K13.ClsIn.mk ?aR ?aF ?h ?r ?sa ?ex ?ty ?k ?ini ?tI ?hg ?hk ?hd ?ha ?hn ?ht ?hm ?no ?l ?c ?kI ?kit ?sb; (case aR => k_is); (case aF => k_is); (case h => k_is); (case r => first | rfl | kernel_rfl | decide +kernel); (case sa => k_is); (case ex => k_is); (case ty => k_is); (case k => k_is); (case ini => k_is); (case tI => k_is); (case hg => k_is); (case hk => k_is); (case hd => k_is); (case ha => k_is); (case hn => k_is); (case ht => k_is); (case hm => k_is); (case no => k_is); (case l => k_is); (case c => k_is); (case kI => k_is); (case kit => first | rfl | kernel_rfl | decide +kernel); (case sb => k_is))
    (case q_MOST_VALUE => refine' K13.cst_mk ?e ?r; (case e => k_is); (case r => exact ⟨_, rfl⟩))
    (case z_isinstance => k_is)
    (case z_int => k_is)
    (case z_bool => k_is)
    (case z_list => k_is)
    (case z_tuple => k_is)
    (case z_len => k_is)
    (case z_range => k_is)
    (case z_enumerate => k_is)
    (case z_reversed => k_is)
    (case z_all => k_is)
    (case z_abs => k_is)
    (case z_max => k_is)
    (case z_min => k_is)
    (case z_set => k_is)
    (case z_repr => k_is)
    (case z_any => k_is)
    (case z_zip => k_is)
    (case z_sum => k_is)
    (case z_sorted => k_is)
    (case m_ish => k_is)
    (case h_ish => exact rfl)
    (case n_ish => kernel_rfl)
    (case m_asp => k_is)
    (case h_asp => exact rfl)
    (case n_asp => kernel_rfl)
    (case m_lw => k_is)
    (case h_lw => exact rfl)
    (case n_lw => kernel_rfl)
    (case ne01 => decide)
    (case ne02 => decide)
    (case ne12 => decide)
