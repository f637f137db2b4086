import PyProof.Rows.All
import Wide.All
import OpenK.AllK
import Wide.FinOn
import HandS.ForMost
import HandS.IsInst
import HandS.AnyAll
import HandS.Evl
import PyProof.GenCompD
import PyProof.WalksMore
import HandS.EndTab
import PyProof.Rows.NestShow
import PyProof.ReprLen
import PyProof.ReprBulk
import KE.GoesMore
import HandS.Zip
import HandS.TryOnly
import HandS.Strs
import HandS.Wide
import HandS.Walk
import HandS.TupLe
import HandS.ExcInit
import HandS.ExcField
import HandS.Lambda
import HandS.CallLocal
import PyProof.CallFns
import HandS.ExcIs
import HandS.WordsExc
import KE.KExcIs
import PyProof.SumWalkG
import PyProof.Rows.Chain
import HandS.SetFor
import HandS.Conv
import HandS.Deep
import HandS.TupAny
import KE.DataEq
import PySem.Challenge.RW_farstory_k08_spans_nested_and_what_is_le
set_option Elab.async false
set_option linter.all false
set_option maxRecDepth 100000
set_option maxHeartbeats 4000000
/-! Pure expressions and pure defs, whatever runs around them; all(f(x) for x in e). -/
namespace Pu
open PySem PySem.Spec PyProof.Rows L2

/-- what stands in g stands in h -/
abbrev Ext (g h : Heap) : Prop := ∀ b o, g.get? b = some o → h.get? b = some o
/-- from any heap over g the expression is worth v, and what stood stays -/
def EV (P : Program) (w : World) (A : Around) (env : Env) (g : Heap) (e : Expr) (v : V) : Prop :=
  ∀ (s : Shared) (Q : Value → Shared → Prop) (E : Value → Shared → Prop), Ext g s.heap →
    (∀ u h' tk, RelV v u → Ext s.heap h' → Q u { s with heap := h', toks := tk }) → wpAny (model P w) A (eval e env) Q E s
/-- arguments -/
def EA (P : Program) (w : World) (A : Around) (env : Env) (g : Heap) (es : List Expr) (vs : List V) : Prop :=
  ∀ (pos : Pos) (s : Shared) (Q : List Value → Shared → Prop) (E : Value → Shared → Prop), Ext g s.heap →
    (∀ us h' tk, Vals vs us → Ext s.heap h' → Q us { s with heap := h', toks := tk }) → wpAny (model P w) A (spliced (backTo pos (starEach es env))) Q E s
/-- a pure def: called with vs at a heap over g it gives v -/
structure PF (P : Program) (w : World) (K : PySem.W.Frag) (mg : Str → Option Value) (base : Heap) (k : Nat) (f : Addr) (fd : FuncData) (ps : List Str) (sp : List V → Heap → V → Prop) : Prop where
  run : ∀ (A : Around) (s : Shared) (args : Args) (us : List Value) (vs : List V) (v : V) (R : Result → Shared → Prop), Room k A → Ext base s.heap → BindsTo s fd args (ps.zip us) → Vals vs us → vs.length = ps.length → sp vs s.heap v →
    (∀ u h' tk, RelV v u → Ext s.heap h' → R (.ok (.ret u)) { s with heap := h', toks := tk }) → codeAny (model P w) A (.call (.ref f) args) R s

/-- the frame of a pure body -/
structure FrP (K : PySem.W.Frag) (mg : Str → Option Value) (base : Heap) (A : Around) (env : Env) (g : Heap) : Prop where
  mod : L2.Mod K mg base
  ext : Ext base g
  kind : env.scope.kind = .function
  glob : env.globals = mainGlobals
  blt : env.builtins = builtinsNs
  hd : A.handled = none

section
variable {P : Program} {w : World} {K : PySem.W.Frag} {mg : Str → Option Value} {base : Heap} {A : Around} {env : Env} {g : Heap}
theorem ev_loc {x : Str} {pos : Pos} {m : Str → Option Value} {u : Value} {v : V} (F : FrP K mg base A env g) (hl : env.kindOf x = some .local) (hn : g.Ns env.locals m) (hm : m x = some u) (r : RelV v u)
    (hd : (x == ("__debug__" : Str)) = false := by decide) : EV P w A env g (.Name x pos) v := fun s Q E hx hQ =>
  wpAny_Name (wpAny_loadName_local F.kind hl (hn.keeps hx) hm (hQ u s.heap s.toks r fun _ _ e => e)) hd
theorem ev_int {i : Int} {k : Nat} {pos : Pos} : EV P w A env g (.Constant (.int i) k pos) (.int i) := fun s Q E hx hQ =>
  wpAny_Constant_int (hQ _ s.heap (s.toks + 1) ⟨_, rfl⟩ fun _ _ e => e)
theorem ev_blt {x : Str} {pos : Pos} {u : Value} {v : V} (F : FrP K mg base A env g) (hg : env.kindOf x = some .globalImplicit) (hm : mg x = none) (hv : bootBuiltins x = some u) (r : RelV v u) (hn : x ≠ "__name__" := by decide)
    (hd : (x == ("__debug__" : Str)) = false := by decide) : EV P w A env g (.Name x pos) v := fun s Q E hx hQ => by
  obtain ⟨mb, h1, h2⟩ := F.mod.blt
  have hb : Ext base s.heap := fun b o e => hx b o (F.ext b o e)
  exact Calls.Name_function_global F.kind hg (Calls.loadGlobal_builtin (by rw [F.glob]; exact F.mod.glob.keeps hb) hm (by rw [F.blt]; exact h1.keeps hb) ((h2 x hn).trans hv) (hQ u s.heap s.toks r fun _ _ e => e)) hd
theorem ev_and {a b : Expr} {rest : List Expr} {pos : Pos} {x y : Bool} (ha : EV P w A env g a (.bl x)) (hb : x = true → EV P w A env g (.BoolOp .And (b :: rest) pos) (.bl y)) :
    EV P w A env g (.BoolOp .And (a :: b :: rest) pos) (.bl (x && y)) := fun s Q E hx hQ => by
  refine BoolOp_and (ha s _ E hx fun u h' tk r hk => ?_)
  cases (show u = Value.bool x from r)
  refine wpAny_truthy_bool ?_
  cases x with
  | false => exact hQ _ h' tk rfl hk
  | true => exact hb rfl { s with heap := h', toks := tk } Q E (fun b o e => hk b o (hx b o e)) fun u h2 t2 r2 k2 => hQ u h2 t2 r2 fun b o e => k2 b o (hk b o e)
theorem ev_one {op : BoolOp} {a : Expr} {pos : Pos} {v : V} (h : EV P w A env g a v) : EV P w A env g (.BoolOp op [a] pos) v := fun s Q E hx hQ => BoolOp_one (h s Q E hx hQ)
theorem ev_not {a : Expr} {pos : Pos} {x : Bool} (ha : EV P w A env g a (.bl x)) : EV P w A env g (.UnaryOp .Not a pos) (.bl (!x)) := fun s Q E hx hQ => by
  refine UnaryOp_ (ha s _ E hx fun u h' tk r hk => ?_)
  cases (show u = Value.bool x from r)
  exact not_of (wpAny_truthy_bool (hQ _ h' tk rfl hk))
theorem ev_ge {a b : Expr} {pos : Pos} {i j : Int} (ha : EV P w A env g a (.int i)) (hb : EV P w A env g b (.int j)) (hm : behindInMarks .GtE b = false := by first | exact nobehind _ (by decide) (by decide) | rfl) :
    EV P w A env g (.Compare a [.GtE] [b] pos) (.bl (decide (i ≥ j))) := fun s Q E hx hQ => by
  refine wpAny_Compare1 (ha s _ E hx fun u h' tk r hk => ?_) hm
  refine hb { s with heap := h', toks := tk } _ E (fun b o e => hk b o (hx b o e)) fun u2 h2 t2 r2 k2 => ?_
  obtain ⟨t, rfl⟩ := r
  obtain ⟨t', rfl⟩ := r2
  exact ge_int (hQ _ h2 t2 rfl fun b o e => k2 b o (hk b o e))
theorem ev_eqI {a b : Expr} {pos : Pos} {i j : Int} (ha : EV P w A env g a (.int i)) (hb : EV P w A env g b (.int j)) (hm : behindInMarks .Eq b = false := by first | exact nobehind _ (by decide) (by decide) | rfl) :
    EV P w A env g (.Compare a [.Eq] [b] pos) (.bl (decide (i = j))) := fun s Q E hx hQ => by
  refine wpAny_Compare1 (ha s _ E hx fun u h' tk r hk => ?_) hm
  refine hb { s with heap := h', toks := tk } _ E (fun b o e => hk b o (hx b o e)) fun u2 h2 t2 r2 k2 => ?_
  obtain ⟨t, rfl⟩ := r
  obtain ⟨t', rfl⟩ := r2
  exact eq_int (by rw [Bool.beq_eq_decide_eq]; exact hQ _ h2 t2 rfl fun b o e => k2 b o (hk b o e))
theorem ea_nil : EA P w A env g [] [] := fun pos s Q E hx hQ => Calls.spliced_nil (hQ [] s.heap s.toks .nil fun _ _ e => e)
theorem ea_cons {e : Expr} {es : List Expr} {v : V} {vs : List V} (ha : EV P w A env g e v) (hr : EA P w A env g es vs) (hs : starEach (e :: es) env = (false, eval e env) :: starEach es env := by rfl) : EA P w A env g (e :: es) (v :: vs) := fun pos s Q E hx hQ => by
  rw [hs]
  show wpAny _ _ (spliced ((false, eval e env) :: backTo pos (starEach es env))) _ _ s
  refine Calls.spliced_cons (ha s _ E hx fun u h' tk r hk => ?_)
  exact hr pos { s with heap := h', toks := tk } _ E (fun b o e => hk b o (hx b o e)) fun us h2 t2 r2 k2 => hQ (u :: us) h2 t2 (.cons r r2) fun b o e => k2 b o (hk b o e)
/-- a built-in by its name -/
theorem ev_bltcall {id : String} {x : Str} {p pos : Pos} {e : Expr} {es : List Expr} {vs : List V} {z : V} (F : FrP K mg base A env g) (hg : env.kindOf x = some .globalImplicit) (hm : mg x = none) (hv : bootBuiltins x = some (.builtin id))
    (ha : EA P w A env g (e :: es) vs)
    (hc : ∀ (s : Shared) (us : List Value) (Q : Value → Shared → Prop) (E : Value → Shared → Prop), Ext g s.heap → Vals vs us → (∀ u h' tk, RelV z u → Ext s.heap h' → Q u { s with heap := h', toks := tk }) → wpAny (model P w) A (call (.builtin id) us) Q E s)
    (hn : x ≠ "__name__" := by decide) (hd : (x == ("__debug__" : Str)) = false := by decide)
    (he : starEach (e :: es) env = (false, eval e env) :: starEach es env := by rfl) (hpl : (backTo pos (starEach es env)).any (·.1) = false := by rfl) : EV P w A env g (.Call (.Name x p) (e :: es) [] pos) z := fun s Q E hx hQ => by
  obtain ⟨mb, h1, h2⟩ := F.mod.blt
  have hb : Ext base s.heap := fun b o e => hx b o (F.ext b o e)
  refine wpAny_Call_Name_kw (Calls.Name_function_global F.kind hg (Calls.loadGlobal_builtin (by rw [F.glob]; exact F.mod.glob.keeps hb) hm (by rw [F.blt]; exact h1.keeps hb) ((h2 x hn).trans hv) ?_) hd)
  refine PyProof.Rows.callWith_builtin1 (ha pos s _ E hx fun us h' tk r hk => ?_) he hpl
  exact hc { s with heap := h', toks := tk } us Q E (fun b o e => hk b o (hx b o e)) r fun u h2 t2 r2 k2 => hQ u h2 t2 r2 fun b o e => k2 b o (hk b o e)
/-- a pure def by its name -/
theorem ev_pf {k : Nat} {f : Addr} {fd : FuncData} {ps : List Str} {sp : List V → Heap → V → Prop} {x : Str} {p pos : Pos} {e : Expr} {es : List Expr} {vs : List V} {z : V} (F : FrP K mg base A env g) (G : PF P w K mg base k f fd ps sp) (hr : Room k A)
    (hg : env.kindOf x = some .globalImplicit) (hm : mg x = some (.ref f)) (hk : PySem.W.keepIn K (.ref f) = true) (hb : Binds K fd ps []) (ha : EA P w A env g (e :: es) vs) (hl : vs.length = ps.length)
    (hsp : ∀ h, Ext g h → sp vs h z) (hd : (x == ("__debug__" : Str)) = false := by decide)
    (he : starEach (e :: es) env = (false, eval e env) :: starEach es env := by rfl) (hpl : (backTo pos (starEach es env)).any (·.1) = false := by rfl) : EV P w A env g (.Call (.Name x p) (e :: es) [] pos) z := fun s Q E hx hQ => by
  have hbs : Ext base s.heap := fun b o e => hx b o (F.ext b o e)
  refine wpAny_Call_Name_kw (Calls.Name_function_global F.kind hg (Calls.loadGlobal_global (by rw [F.glob]; exact F.mod.glob.keeps hbs) hm ?_) hd)
  refine PySem.W.callWith_K (h₀ := base) F.mod.kin hk (ha pos s _ E hx fun us h' tk r hk2 => ?_) he hpl
  have hx2 : Ext g h' := fun b o e => hk2 b o (hx b o e)
  have hb2 : Ext base h' := fun b o e => hx2 b o (F.ext b o e)
  refine ⟨F.mod.kin.keeps hb2, ?_⟩
  show wpAny _ _ (call (.ref f) us) _ _ _
  have hlu : (us ++ []).length = ps.length := by rw [List.append_nil, ← r.length]; exact hl
  have hbind := hb { s with heap := h', toks := tk } us (F.mod.kin.keeps hb2) hlu
  rw [List.append_nil] at hbind
  refine wpAny_call (codeAny_mono (G.run A { s with heap := h', toks := tk } ⟨us, []⟩ us vs z (fun r s' => ∃ u h2 t2, r = .ok (.ret u) ∧ RelV z u ∧ Ext h' h2 ∧ s' = { s with heap := h2, toks := t2 }) hr hb2 hbind r hl (hsp h' hx2) fun u h2 t2 r2 k2 => ⟨u, h2, t2, rfl, r2, k2, rfl⟩) fun r s' hq => ?_)
  obtain ⟨u, h2, t2, rfl, r2, k2, rfl⟩ := hq
  exact hQ u h2 t2 r2 fun b o e => k2 b o (hk2 b o e)
/-- a pure def of the text: its body is one return -/
theorem pf_ret {x qual : Str} {st : Stmt} {f : Addr} {fd : FuncData} {N ps : List Str} {k : Nat} {sp : List V → Heap → V → Prop} {e : Expr} {pos : Pos} (M : L2.Mod K mg base) (Fn : Fun K x qual st f fd) (S : FnScope N ps (defScope st)) (hst : defBody st = [.Return (some e) pos])
    (hloc : ∀ y ∈ ps, (defScope st).names.lookup y = some .local)
    (hbody : ∀ (cdv : Value) (A : Around) (L : Addr) (g : Heap) (us : List Value) (vs : List V) (v : V), Room k A → Ext base g → Vals vs us → vs.length = ps.length → sp vs g v →
      (∀ (i : Nat) (y : Str) (u : Value), ps[i]? = some y → us[i]? = some u → ∃ m, g.Ns (envOfC qual (defScope st) L f cdv).locals m ∧ m y = some u) → EV P w A (envOfC qual (defScope st) L f cdv) g e v)
    (hmono : ∀ vs g h v, Ext g h → sp vs g v → sp vs h v) : PF P w K mg base (k + 1) f fd ps sp := by
  obtain ⟨oc, od, kV, doc, pm, an, cdv, ct, osl, rfl, lk, hcd⟩ := Fn.ex
  refine ⟨fun A s args us vs v R hr hbs hb r hl hsp hR => ?_⟩
  have KX : K.In s.heap := M.kin.keeps hbs
  have lim : s.heap.NoLimit := M.nolimit.keeps hbs
  have ndP : ps.Nodup := by rw [← S.pre]; exact S.nd.sublist (List.take_sublist _ _)
  refine codeAny_call_function hr.depth (KX _ _ lk) rfl S.co S.gen rfl (PySem.W.codeRec_of KX hcd) (hb _ _ _ _ ?_)
  refine wpAny_newFunctionEnv_cells S.kind (fun ⟨n, z⟩ hy => .inl (hloc n (List.of_mem_zip hy).1)) fun env he s1 X => ?_
  subst he
  obtain ⟨h1, tk, e1, hk1⟩ := X.done
  refine ⟨lim.keeps X.toInCall.keep, codeAny_func ?_⟩
  rw [hst]
  refine wpAny_execs_cons (wpAny_Return_some ?_)
  have hns := X.toInCall.ns
  subst e1
  refine hbody cdv _ s.heap.objs.size h1 us vs v (hr.deeper _) (fun b o e => hk1 b o (hbs b o e)) r hl (hmono _ _ _ _ hk1 hsp) (fun i y u h2 h3 => ⟨_, hns, bindL_get ndP h2 h3 (hloc y (List.mem_of_getElem? h2))⟩) _ _ _ (fun _ _ e => e) fun u h' t' rv k' => ?_
  exact hR u h' t' rv fun b o e => k' b o (hk1 b o e)
end
end Pu
set_option Elab.async false
set_option linter.all false
set_option maxRecDepth 100000
set_option maxHeartbeats 4000000
/-! all(f(x) for x in e), e a tuple or a list, f(x) pure. -/
namespace Pu
open PySem PySem.Spec PyProof.Rows L2 GxR

section
variable {X : Cx} {pins : List (Addr × Obj)} {σ : L2.St} {H : Hp} {s : Shared}
/-- the walk of a tuple or a list, its iterator just made -/
theorem iter_any {A : Around} {a : Addr} {xs : List V} {Q : Value → Shared → Prop} {E : Value → Shared → Prop} (I : Inv X pins σ H s) (hq : SqT X.K H a xs ∨ SqL X.K H a xs)
    (hQ : ∀ (o : Obj) (its : List Value) (St : Nat → Heap → Prop), Vals xs its → a < s.heap.objs.size →
      (∀ B : Around, B.handled = none → Walks X.prog X.w B s.heap.objs.size [s.heap.objs.size, a] [s.heap.objs.size] its.toArray.size (fun i v => its.toArray[i]? = some v) St) →
      St 0 (s.heap.push o) → Q (.ref s.heap.objs.size) { s with heap := s.heap.push o }) : wpAny (model X.prog X.w) A (pyIter (.ref a)) Q E s := by
  rcases hq with hq | hq
  · obtain ⟨its, rv, p, hz⟩ := I.tuple hq
    have lt : a < s.heap.objs.size := p.lt
    have hne : a ≠ s.heap.objs.size := Nat.ne_of_lt lt
    refine wpAny_pyIter_tuple (show s.heap.IsTuple a its.toArray from p) ?_
    refine hQ _ its _ rv lt (fun B hB => Walks.tuple hB s.heap.objs.size a hne its.toArray) ⟨⟨_, Heap.get?_push_size _ rfl, rfl, rfl⟩, ?_⟩
    obtain ⟨o, ho, r⟩ := p
    exact ⟨o, Heap.get?_push_of_some _ ho, r⟩
  · obtain ⟨its, rv, p, hz⟩ := I.list hq
    obtain ⟨o1, n1, ho1, _⟩ := id p
    have lt : a < s.heap.objs.size := Heap.lt_size ho1
    have hne : a ≠ s.heap.objs.size := Nat.ne_of_lt lt
    refine wpAny_pyIter_list p.isList ?_
    refine hQ _ its _ rv lt (fun B hB => Walks.list hB s.heap.objs.size a hne its.toArray) ⟨⟨_, Heap.get?_push_size _ rfl, rfl, rfl⟩, ?_⟩
    exact (p.keeps fun b o e => Heap.get?_push_of_some _ e).isList

/-- the element's worth, item by item, from any frame of the generator -/
def Elt (X : Cx) (T : Addr) (sc : Scope) (x : Str) (elt : Expr) (k : Nat) (H1 : Hp) (xs : List V) (pb : Nat → Bool) : Prop :=
  ∀ (B : Around) (cenv : Env) (g : Heap) (i : Nat) (v : V) (u : Value), Room k B → cenv.scope = sc → cenv.globals = mainGlobals → cenv.builtins = builtinsNs → Ext X.base g →
    (∃ m, g.Ns cenv.locals m ∧ m x = some u) → xs[i]? = some v → RelV v u → (∀ b ho, b ≠ T → H1 b = some ho → ObjOk X.prog X.w H1 g b ho) → EV X.prog X.w B cenv g elt (.bl (pb i))
/-- a generator that is ready to be drawn from, n tests -/
def Drawn (X : Cx) (pins : List (Addr × Obj)) (σ : L2.St) (H1 : Hp) (T : Addr) (n : Nat) (pb : Nat → Bool) (g : Addr) (s5 : Shared) : Prop :=
  ∃ (fp wr : List Addr) (G : Array GenState → Array GenState → Prop) (F : Nat → Value → Prop) (St : Nat → Shared → Prop),
    WalksS X.prog X.w X.A.in1 g fp wr G n F St ∧ St 0 s5 ∧ TruthOf X.prog X.w X.A.in1 F pb ∧ ∀ s', Moved wr G s5 s' → ∃ H2, Tabbed T H1 H2 ∧ Inv X pins σ H2 s'

/-- the generator's code object, met already or made now: what is known of the heap behind it -/
theorem code_any {M : Model} {A : Around} {E : Value → Shared → Prop} {s : Shared} {env : Env} {c T : Addr} {ps : Array Value} {pos : Pos} {nm : Str} {sc : Scope} {Q : Value → Shared → Prop}
    (hc : env.code = .ref c) (hi : s.heap.IsCode c T ps) (ht : s.heap.TableAt c T ps) (ok : TriplesOk ps.toList) (hT : s.heap.get? T = some { cls := .none, data := .fields ps })
    (k : ∀ (code : Value) (h3 : Heap) (tk : Nat) (ps' : Array Value), Heap.ExtBut T s.heap h3 → s.heap.objs.size ≤ h3.objs.size → h3.get? T = some { cls := .none, data := .fields ps' } → (∃ more, ps' = ps ++ more) → TriplesOk ps'.toList →
      Q code { s with heap := h3, toks := tk }) : wpAny M A (genexprCode env pos nm sc) Q E s := by
  cases e : codeAmong pos ps.toList with
  | some old => exact wpAny_genexprCode_hit hc hi e (k old s.heap s.toks ps (Heap.ExtBut.refl _ _) (Nat.le_refl _) hT ⟨#[], by simp⟩ ok)
  | none =>
    refine wpAny_genexprCodeX hc hi ht e fun new h3 tk far lo hi' code' _ tab' _ => ?_
    have tr := code'
    obtain ⟨_, _, _, _, _, _, _, _, _, _, _, _, _, _, _, _, _, _, _, tr, _⟩ := tr
    exact k _ h3 tk _ far (by omega) tab'.2 ⟨_, rfl⟩ tr
theorem gen_seq {c T : Addr} {elt iter : Expr} {x : Str} {px gp : Pos} {sc : Scope} {te : TE} {k : Nat} {W : Value → Shared → Prop} {R : Hp → List V → (Nat → Bool) → Prop}
    (hr : Room (k + 1) X.A) (TB : TabB X.base X.mg c T) (hcode : X.env.code = .ref c) (S : GenS X.env sc x) (hi : PE X iter te) (hs : ∀ v, genFold iter X.env v = pure v) (I : Inv X pins σ H s)
    (h : te σ H fun v H1 => ∃ (a : Addr) (xs : List V) (pb : Nat → Bool), v = .ref a ∧ (SqT X.K H1 a xs ∨ SqL X.K H1 a xs) ∧ TabG H1 T ∧ Elt X T sc x elt k H1 xs pb ∧ R H1 xs pb)
    (hQ : ∀ H1 xs pb g s5, R H1 xs pb → Drawn X pins σ H1 T xs.length pb g s5 → W (.ref g) s5) :
    wpAny (model X.prog X.w) X.A (eval (.GeneratorExp elt [⟨.Name x px, iter, [], 0⟩] sc gp) X.env) W X.xe s := by
  refine wpAny_GeneratorExp_walksQD hr.hd S.co (closure_ok S.free) S.cell S.dot S.loc S.kind (by have := hr.dp; omega) ?_ hs
  refine thn (hi.run pins s σ H _ I h) fun xv s1 ⟨v, H1, I1, r1, q1⟩ => ?_
  obtain ⟨a, xs, pb, rfl, hsq, ⟨ps, hT, ht⟩, hel, hR⟩ := q1
  cases (show xv = Value.ref a from r1)
  refine iter_any I1 hsq fun o its St rv haLt Wk hst => ?_
  have hTs : s1.heap.get? T = some { cls := .none, data := .fields ps } := I1.hok T _ hT
  have hTlt : T < s1.heap.objs.size := Heap.lt_size hTs
  have hT2 : (s1.heap.push o).get? T = some { cls := .none, data := .fields ps } := Heap.get?_push_of_some _ hTs
  have push_keep : ∀ b u, s1.heap.get? b = some u → (s1.heap.push o).get? b = some u := fun b u e => Heap.get?_push_of_some _ e
  have cd : PySem.W.CodeHd (s1.heap.push o) c T := TB.code.keeps fun b u e => push_keep b u (I1.bk b u e)
  have lim2 : (s1.heap.push o).NoLimit := I1.nolimit.push o
  have noT : ∀ b u, X.base.get? b = some u → b ≠ T := fun b u e z => by
    have n := (I1.bs b u e).2
    rw [z, hT] at n
    cases n
  have hlen : its.toArray.size = xs.length := by rw [List.size_toArray, rv.length]
  refine ⟨lim2, code_any hcode (cd.code hT2 ht) (cd.tab hT2) ht hT2 fun code h3 tk ps' hx hsz hT3 hmore ht3 => ?_⟩
  obtain ⟨bm, ob, e1, e2, e3, e4, e5, e6, e7, e8⟩ := TB.bm
  have cneT : cStatics ≠ T := fun e => by
    obtain ⟨_, hns, _⟩ := I1.nolimit
    obtain ⟨o', es, ep, ho, hd, _⟩ := hns
    rw [e, hTs] at ho
    cases ho
    cases hd
  have cLt : cStatics < s1.heap.objs.size := let ⟨_, hns, _⟩ := I1.nolimit; hns.lt
  have sz2 : (s1.heap.push o).objs.size = s1.heap.objs.size + 1 := Heap.size_push ..
  have keep3 : ∀ b u, b ≠ T → s1.heap.get? b = some u → h3.get? b = some u := fun b u hb e => hx b u hb (push_keep b u e)
  refine wpAny_builtinsFor (m := X.mg) (by rw [I1.ok.glob]; exact ((I1.mod.glob.keeps I1.bk).push o).extBut hx TB.gP) e1 e2 (keep3 _ _ e4 (I1.bk _ _ e5)) e6 e7 e8 ?_
  have aneT : a ≠ T := fun z => by
    rcases hsq with q | q
    · rcases q with (q | ⟨_, q⟩) | ⟨_, _, _, hk, _⟩
      · rw [z, hT] at q; cases q
      · rw [z, hT] at q; cases q
      · exact noT a _ (I1.mod.kin a _ hk) z
    · rcases q with (q | ⟨_, q⟩) | ⟨_, _, _, hk, _⟩
      · rw [z, hT] at q; cases q
      · rw [z, hT] at q; cases q
      · exact noT a _ (I1.mod.kin a _ hk) z
  have sLt : s1.heap.objs.size < h3.objs.size := Nat.lt_of_lt_of_le (by rw [sz2]; exact Nat.lt_succ_self _) hsz
  have Wk2 : ∀ B : Around, B.handled = none → Walks X.prog X.w B s1.heap.objs.size [s1.heap.objs.size, a] [s1.heap.objs.size] xs.length (fun i v => its.toArray[i]? = some v) St := hlen ▸ Wk
  refine ⟨s1.heap.objs.size, [s1.heap.objs.size, a], [s1.heap.objs.size], xs.length, (fun i v => its.toArray[i]? = some v), St, (fun _ => true), (fun i y => y = .bool (pb i)), rfl, Wk2, ?_, ?_, lim2.extBut hx cneT, ?_, ?_, ?_⟩
  · refine (Wk2 X.A hr.hd).frame _ _ _ hst fun b hb u e => hx b u (fun z => ?_) e
    rcases List.mem_cons.mp hb with z2 | z2
    · exact Nat.ne_of_lt hTlt (z.symm.trans z2)
    · rcases List.mem_cons.mp z2 with z2 | z2
      · exact aneT (z2.symm.trans z)
      · cases z2
  · intro b hb
    show b < h3.objs.size
    rcases List.mem_cons.mp hb with z | z
    · rw [z]; exact sLt
    · rcases List.mem_cons.mp z with z | z
      · rw [z]; exact Nat.lt_trans haLt sLt
      · cases z
  · intro z
    rcases List.mem_cons.mp z with z | z
    · exact Nat.ne_of_lt cLt z
    · cases z
  · intro href hhref
    refine ⟨fun A' E' i v s₂ m₂ hA hD hU hPv hn hm hk => ?_, fun A' E' i v s₂ m₂ hA hD hU hPv hp hn hm hk => ?_⟩
    · simp only [List.forIn_nil]
      exact wpAny_pure ⟨rfl, keeps_refl _⟩
    · have hv2 : its[i]? = some v := by simpa using hPv
      have hi2 : i < xs.length := by
        have := (List.getElem?_eq_some_iff.mp hv2).1
        rw [rv.length]; exact this
      obtain ⟨u, hu, ru⟩ := rv.get (List.getElem?_eq_getElem hi2)
      have euv : u = v := Option.some.inj (hu.symm.trans hv2)
      subst euv
      have ob2 : ∀ b w', b ≠ T → s1.heap.get? b = some w' → s₂.heap.get? b = some w' := fun b w' hb e => by
        have l1 := Heap.lt_size e
        have e3 := keep3 b w' hb e
        refine hk b (List.mem_range.mpr (Heap.lt_size e3)) (fun z => ?_) _ (hhref _ _ e3)
        rcases List.mem_cons.mp z with z | z
        · exact Nat.ne_of_lt l1 z
        · cases z
      have rm : Room k A' := ⟨hA, by have := hr.dp; omega, by have := hr.un; omega⟩
      refine hel A' (genEnv sc (cloFrom X.env.cells sc.names []) h3.objs.size code builtinsNs X.env) s₂.heap i _ u rm rfl I1.ok.glob rfl (fun b w' e => ob2 b w' (noT b w' e) (I1.bk b w' e)) ⟨m₂, hn, hm⟩ (List.getElem?_eq_getElem hi2) ru (fun b ho hb e => ?_) s₂ _ _ (fun _ _ e => e) fun y h' tk' ry hk' => ?_
      · refine (I1.hok b ho e).stay (fun d w' hd q => ob2 d w' ?_ q) (fun _ q => q) fun _ _ q => q
        rcases hd with z | z
        · rw [z]; exact hb
        · intro z2
          rw [z2, hT] at z
          cases z
      · exact ⟨ry, h', tk', rfl, hk'⟩
  · intro g h5 tk5 gs hgb hag hsz5 hk5 W5 hat
    simp only [GxR.passing_true, List.length_range] at W5
    refine hQ H1 xs pb g _ hR ⟨_, _, _, _, _, W5.in4_1, hat, ?_, fun s' hm => ?_⟩
    · intro j y sj Qj Ej hy hQj
      obtain ⟨i, hij, rfl⟩ := hy
      obtain ⟨hj, ej⟩ := List.getElem?_eq_some_iff.mp hij
      rw [List.getElem_range] at ej
      subst ej
      exact wpAny_truthy_bool hQj
    · obtain ⟨more, em⟩ := hmore
      have nwr : ∀ b u, s1.heap.get? b = some u → b ∉ h3.objs.size :: [s1.heap.objs.size] := fun b u e hb => by
        have hl := Heap.lt_size e
        rcases List.mem_cons.mp hb with z | z
        · have h9 : b = h3.objs.size := z
          have : b < s1.heap.objs.size := hl
          rw [h9] at this
          have h10 : h3.objs.size < s1.heap.objs.size := this
          omega
        · rcases List.mem_cons.mp z with z | z
          · rw [z] at hl
            exact Nat.lt_irrefl _ hl
          · cases z
      have J := inv_tab (more := more) (h' := s'.heap) (g' := s'.gens) (d' := s'.drawn) (t' := s'.toks) I1 hT (fun b u hb e => hm.heap b u (nwr b u e) (hk5 b u (keep3 b u hb e)))
        (by rw [← em]; exact hm.heap T _ (nwr T _ hTs) (hk5 T _ hT3)) (AllBare.movedS (I1.bare.push hgb) hm)
      rw [sh_eta s1 s' hm.os] at J
      exact ⟨upd H1 T (.tbl (ps ++ more)), ⟨⟨ps ++ more, upd_same, by rw [← em]; exact ht3⟩, fun b hb => upd_ne hb⟩, J⟩

/-- all(test for x in e): the reading -/
def tAllQ (X : Cx) (T : Addr) (sc : Scope) (x : Str) (elt : Expr) (k : Nat) (te : TE) : TE := fun σ H Q => te σ H fun v H1 => ∃ (a : Addr) (xs : List V) (pb : Nat → Bool),
  v = .ref a ∧ (SqT X.K H1 a xs ∨ SqL X.K H1 a xs) ∧ TabG H1 T ∧ Elt X T sc x elt k H1 xs pb ∧ ∀ H2, Tabbed T H1 H2 → Q (.bl ((List.range xs.length).all pb)) H2
theorem pe_allQ {c T : Addr} {elt iter : Expr} {x : Str} {px p pos gp : Pos} {sc : Scope} {te : TE} {k : Nat} (hr : Room (k + 1) X.A) (hg : Gl X "all") (hm : X.mg "all" = none) (TB : TabB X.base X.mg c T) (hcode : X.env.code = .ref c)
    (S : GenS X.env sc x) (hi : PE X iter te) (hb : bootBuiltins "all" = some (.builtin "all") := by decide +kernel) (hs : ∀ v, genFold iter X.env v = pure v := by intro _; rfl)
    (he : starEach [.GeneratorExp elt [⟨.Name x px, iter, [], 0⟩] sc gp] X.env = (false, eval (.GeneratorExp elt [⟨.Name x px, iter, [], 0⟩] sc gp) X.env) :: starEach [] X.env := by rfl) :
    PE X (.Call (.Name "all" p) [.GeneratorExp elt [⟨.Name x px, iter, [], 0⟩] sc gp] [] pos) (tAllQ X T sc x elt k te) := by
  refine ⟨fun pins s σ H Q I h => wpAny_Call_Name_kw (ld_blt I hg hm hb (PyProof.Rows.callWith_builtin1 ?_ he (by rfl)))⟩
  rw [he]
  show wpAny _ _ (spliced ((false, eval (.GeneratorExp elt [⟨.Name x px, iter, [], 0⟩] sc gp) X.env) :: backTo pos (starEach [] X.env))) _ _ s
  refine Calls.spliced_cons (gen_seq (R := fun H1 xs pb => ∀ H2, Tabbed T H1 H2 → Q (.bl ((List.range xs.length).all pb)) H2) hr TB hcode S hi hs I h fun H1 xs pb g s5 hR hG => ?_)
  obtain ⟨fp, wr, G, F, St, Wk, hst, htr, hI⟩ := hG
  refine Calls.spliced_nil (call_all_walkS (Wk.self 0 _ _ _ hst ⟨g, fp, wr, G, _, F, St, _, rfl, Wk, hst, htr, fun s' hmv => ?_⟩))
  obtain ⟨H2, hT, J⟩ := hI s' hmv
  exact ⟨.bl _, H2, J, rfl, hR H2 hT⟩
end
end Pu
set_option Elab.async false
set_option linter.all false
set_option maxRecDepth 100000
set_option maxHeartbeats 4000000
/-! repr of data; a law's end where repr is asked. -/
namespace Pu
open PySem PySem.Spec PyProof.Rows L2 GxR

/-- the list or tuple d, shown -/
def rRepr (K : PySem.W.Frag) : List V → Hp → VK → Prop := fun vs H Q => ∃ (v : V) (d : PyData), vs = [v] ∧ Dp K H v d ∧ isDisplay d = true ∧ d.showable = true ∧ d.hasDict = false ∧ d.depth ≤ 60 ∧ d.shown.length ≤ sizeLine ∧ Q (.str d.shown) H
theorem cr_repr {X : Cx} (hu : X.A.units + 64 < cLine) (hg : X.A.guards = some []) : CallR X (.builtin "repr") (rRepr X.K) := by
  intro pins s σ H vs us Q I r h
  obtain ⟨v, d, rfl, hd, hi, hs, hn, hz, hl, q⟩ := h
  obtain ⟨u, rfl, rv⟩ := vals1 r
  obtain ⟨as, rd⟩ := Dp.reads I d v u hd rv
  obtain ⟨a, rfl⟩ := isRef_of_reads rd hi
  exact repr_of_reads' rd hs (PyData.noDict_hsm hn) hg (by omega) (fun _ _ e => e) (fun h' t tk hk => ⟨.str d.shown, H, I.kept hk, ⟨t, rfl⟩, q⟩) hl

/-- a def of the text whose code object is known -/
structure FunC (K : PySem.W.Frag) (x qual : Str) (st : Stmt) (f : Addr) (fd : FuncData) (c : Addr) : Prop where
  ex : ∃ (oc : Value) (od : Option Addr) (kV doc pm : Value) (an : Option Addr) (ct : Value) (osl : Array (Option Value)),
    fd = PySem.W.fnOf x qual (defArgs st) (defBody st) (defScope st) .none kV doc pm an (.ref c) ct ∧ K.lookup f = some ⟨oc, od, .func fd, osl⟩ ∧ PySem.W.codeIn K (.ref c) qual = true
  kp : PySem.W.keepIn K (.ref f) = true
theorem FunC.ok {P : Program} {w : World} {K : PySem.W.Frag} {mg : Str → Option Value} {base : Heap} {x qual : Str} {st : Stmt} {f c : Addr} {fd : FuncData} {N ps : List Str} {k : Nat} {sp : Sp} (F : FunC K x qual st f fd c) (S : FnScope N ps (defScope st))
    (len : ∀ vs H Q E, sp vs H Q E → vs.length = ps.length)
    (hbody : ∀ (A : Around) (outer : List Env) (s : Shared) (H : Hp) (vs : List V) (Q : VK) (E : XK), Room k (A.deeper (envOfC qual (defScope st) s.heap.objs.size f (.ref c))) → sp vs H Q E →
      ∃ t, PSs (cxOf CX0 P w K mg base N qual (defScope st) f (.ref c) A outer s H E).nox (defBody st) t ∧ t { nx := fun _ H' => Q .non H', rt := Q } (start N vs) H) : FnOk P w K mg base CX0 (k + 1) f fd ps sp := by
  obtain ⟨oc, od, kV, doc, pm, an, ct, osl, rfl, lk, hcd⟩ := F.ex
  refine fn_of lk hcd S len fun A outer s H vs Q E hr hsp => ?_
  obtain ⟨t, h, q⟩ := hbody A outer s H vs Q E hr hsp
  exact ⟨t, h.nox, q⟩
theorem FunC.fn {K : PySem.W.Frag} {x qual : Str} {st : Stmt} {f c : Addr} {fd : FuncData} (F : FunC K x qual st f fd c) : Fun K x qual st f fd := by
  obtain ⟨oc, od, kV, doc, pm, an, ct, osl, e, lk, hcd⟩ := F.ex
  exact ⟨⟨oc, od, kV, doc, pm, an, .ref c, ct, osl, e, lk, hcd⟩, F.kp⟩

section
variable {P : Program} {w : World} {K : PySem.W.Frag} {mg mb : Str → Option Value} {fa a : Addr} {cs : List (Addr × Addr)} {fd : FuncData} {N : List Str} {x : Str} {st : Stmt} {s₁ : Shared} {vs : List Value} {ns : List Int}
/-- what a law's body is asked: from any base and state, at the caller that the claim names -/
def BodyOk (P : Program) (w : World) (K : PySem.W.Frag) (mg : Str → Option Value) (cs : List (Addr × Addr)) (N : List Str) (st : Stmt) (fa a : Addr) (ns : List Int) : Prop :=
  ∀ (base : Heap) (cdv : Value) (s : Shared) (H : Hp), L2.Mod K mg base → (∀ p ∈ cs, TabB base mg p.1 p.2) → (∀ p ∈ cs, H p.2 = some (.tbl #[])) → SqL K H a (ns.map V.int) →
    ∃ t, PSs (cxOf CX0 P w K mg base N "law" (defScope st) fa cdv callerA [] s H E0).nox (defBody st) t ∧ t { nx := fun _ _ => False, rt := fun v _ => v = .bl true } (start N [.ref a]) H
/-- from a heap that is told by H -/
theorem law_from {H : Hp} (Fn : Fun K "law" "law" st fa fd) (S : FnScope N [x] (defScope st)) (hbind : ∀ (s : Shared) (u : Value), BindsTo s fd ⟨[u], []⟩ [(x, u)]) (hr : Room 9 callerA)
    (B : BodyOk P w K mg cs N st fa a ns) (base : Heap) (M : L2.Mod K mg base) (hT : ∀ p ∈ cs, TabB base mg p.1 p.2) (hH : ∀ p ∈ cs, H p.2 = some (.tbl #[])) (hS : SqL K H a (ns.map V.int))
    (e0 : Env0 P w K mg base callerA [] s₁ H) :
    codeAny (model P w) callerA (.call (.ref fa) ⟨[.ref a], []⟩) (fun r s' => ∃ H', r = .ok (.ret (.bool true)) ∧ s'.os = s₁.os ∧ AllBare s'.gens ∧ Un [] [] H H' s₁.heap s'.heap ∧ HOk P w H' s'.heap) s₁ := by
  obtain ⟨oc, od, kV, doc, pm, an, cdv, ct, osl, rfl, lk, hcd⟩ := Fn.ex
  obtain ⟨t, ht, hq⟩ := B base cdv s₁ H M hT hH hS
  have KX : K.In s₁.heap := M.kin.keeps fun b o e => (e0.bs b o e).1
  have lim : s₁.heap.NoLimit := M.nolimit.keeps fun b o e => (e0.bs b o e).1
  have kinds : ∀ y ∈ [x].zip [Value.ref a], (defScope st).names.lookup y.1 = some .local ∨ ((defScope st).names.lookup y.1 = some .cell ∧ ((cellsFrom (s₁.heap.objs.size + 1) (defScope st).names []).lookup y.1).isSome = true) := fun ⟨n, v⟩ hy => by
    rcases S.par n (List.of_mem_zip hy).1 with q | q
    · exact .inl q
    · exact .inr ⟨q, PySem.W.cellsFrom_some _ _ _ (.inl q)⟩
  refine codeAny_call_function hr.depth (KX _ _ lk) rfl S.co S.gen rfl (PySem.W.codeRec_of KX hcd) (hbind s₁ (.ref a) _ _ _ _ ?_)
  refine wpAny_newFunctionEnv_cells S.kind kinds fun env he s1 X => ?_
  subst he
  refine ⟨lim.keeps X.toInCall.keep, codeAny_func ?_⟩
  have I : Inv (cxOf CX0 P w K mg base N "law" (defScope st) fa cdv callerA [] s₁ H E0) [] (start N [.ref a]) H s1 := inv_start (ps := [x]) (us := [.ref a]) S hr.hd e0 rfl (.cons rfl .nil) X
  refine wpAny_mono (ht.run [] s1 (start N [.ref a]) H _ (I.wish _) hq) (fun fl s' hs => ?_) fun e s' hs => hs.elim
  cases fl with
  | ret u =>
    obtain ⟨v, σ', H', J, rv, q⟩ := hs
    have q2 : v = .bl true := q
    subst q2
    obtain rfl : u = Value.bool true := rv
    exact ⟨H', rfl, J.os, J.bare, J.base, J.hok⟩
  | next =>
    obtain ⟨_, _, _, q⟩ := hs
    exact q.elim
  | brk =>
    obtain ⟨_, _, _, q⟩ := hs
    exact False.elim q
  | cont =>
    obtain ⟨_, _, _, q⟩ := hs
    exact False.elim q

/-- the law's call at the list a ends with True, and what was there is there still -/
abbrev SaysTrue (P : Program) (w : World) (fa a : Addr) (s : Shared) : Prop :=
  codeAny (model P w) callerA (.call (.ref fa) ⟨[.ref a], []⟩) (fun res t => res = .ok (.ret (.bool true)) ∧ OldK s.heap t.heap ∧ t.os = s.os ∧ AllBare t.gens) s
/-- code objects with their tables, all empty yet and none of K -/
def Bare (cs : List (Addr × Addr)) (K : PySem.W.Frag) (h : Heap) : Prop := ∀ p ∈ cs, (h.get? p.2 = some { cls := .none, data := .fields #[] } ∧ K.lookup p.2 = none) ∧ PySem.W.CodeHd h p.1 p.2
/-- the module of the builtins, where the main text finds it -/
def BltMod (mg : Str → Option Value) (h : Heap) : Prop := ∃ m : Addr, ∃ o : Obj, mg "__builtins__" = some (.ref m) ∧ m ≠ builtinsNs ∧ h.get? m = some o ∧ o.cls = .type "module" ∧ o.dict = some builtinsNs ∧ o.data = .plain
/-- the whole end: the heap as it stands behind the top -/
theorem law_end (KX : K.In s₁.heap) (hns : s₁.heap.Ns mainGlobals mg) (hb : s₁.heap.Ns builtinsNs mb) (hbb : ∀ x : Str, x ≠ "__name__" → mb x = bootBuiltins x) (hlim : s₁.heap.NoLimit) (hg : s₁.gens = #[])
    (hcs : Bare cs K s₁.heap) (hbm : BltMod mg s₁.heap)
    (ha : s₁.heap.get? a = some { cls := .type "list", data := .seq vs.toArray }) (hi : IntsAre vs ns) (hl : ns.length ≤ sizeLine)
    (Fn : Fun K "law" "law" st fa fd) (S : FnScope N [x] (defScope st)) (hbind : ∀ (s : Shared) (u : Value), BindsTo s fd ⟨[u], []⟩ [(x, u)]) (hr : Room 9 callerA) (B : BodyOk P w K mg cs N st fa a ns) :
    SaysTrue P w fa a s₁ := by
  have hT := fun p hp => (hcs p hp).1.1
  have nT := fun p hp => (hcs p hp).1.2
  have C := fun p hp => (hcs p hp).2
  -- the tables, the script
  let Ts := cs.map (·.2)
  have tab : ∀ b, b ∈ Ts → s₁.heap.get? b = some { cls := .none, data := .fields #[] } := fun b h => by
    obtain ⟨p, hp, rfl⟩ := List.mem_map.mp h
    exact hT p hp
  have inT : ∀ p ∈ cs, p.2 ∈ Ts := fun p hp => List.mem_map.mpr ⟨p, hp, rfl⟩
  have aNot : a ∉ Ts := fun z => by
    have q := (tab a z).symm.trans ha
    cases congrArg Obj.data (Option.some.inj q)
  have rv := vals_ints hi
  have frame : ∀ (u : Option HO), (u = none ∨ u = some (.frz { cls := .type "list", data := .seq vs.toArray } (.lst (ns.map V.int)))) → (u ≠ none → K.lookup a = none) →
      SqL K (fun b => if b = a then u else if b ∈ Ts then some (.tbl #[]) else none) a (ns.map V.int) →
      SaysTrue P w fa a s₁ := by
    intro u hu hKa hS
    generalize hHdef : (fun b => if b = a then u else if b ∈ Ts then some (HO.tbl #[]) else none : Hp) = H at hS
    have Ha : H a = u := by rw [← hHdef]; exact if_pos rfl
    have HT : ∀ b, b ∈ Ts → H b = some (.tbl #[]) := fun b h => by
      have nb : b ≠ a := fun z => aNot (z ▸ h)
      rw [← hHdef]
      exact (if_neg nb).trans (if_pos h)
    have HN : ∀ b, b ≠ a → b ∉ Ts → H b = none := fun b h1 h2 => by
      rw [← hHdef]
      exact (if_neg h1).trans (if_neg h2)
    have ok : HOk P w H s₁.heap := fun b o e => by
      by_cases h1 : b = a
      · subst h1
        rw [Ha] at e
        rcases hu with z | z
        · rw [z] at e; cases e
        · rw [z] at e
          cases e
          exact ⟨ha, by rw [List.length_map]; exact hl, vs, _, rv, ha⟩
      · by_cases h2 : b ∈ Ts
        · rw [HT b h2] at e
          cases e
          exact tab b h2
        · rw [HN b h1 h2] at e; cases e
    -- what is neither a list nor an empty table is not tracked
    have plain : ∀ {b : Addr} {o : Obj}, s₁.heap.get? b = some o → (∀ q n, o.data ≠ .seq q n) → o.data ≠ .fields #[] → H b = none := fun {b o} e h1 h2 => by
      refine HN b (fun z => ?_) fun z => ?_
      · rw [z, ha] at e
        cases e
        exact h1 _ _ rfl
      · rw [tab b z] at e
        cases e
        exact h2 rfl
    have dct : ∀ {b : Addr} {o : Obj} {es : Array DictEntry} {ep : Nat}, s₁.heap.get? b = some o → o.data = .dict es ep → H b = none := fun e d =>
      plain e (fun q n z => by rw [d] at z; cases z) fun z => by rw [d] at z; cases z
    have bg : ∀ {b : Addr} {o : Obj}, s₁.heap.get? b = some o → H b = none → (hidT s₁.heap H).get? b = some o := fun e n => hidT_get e n
    have nsB : ∀ {b : Addr} {m : Str → Option Value}, s₁.heap.Ns b m → (hidT s₁.heap H).Ns b m := fun ⟨o, es, ep, e, d, r⟩ => ⟨o, es, ep, bg e (dct e d), d, r⟩
    have KB : K.In (hidT s₁.heap H) := fun b o e => by
      refine bg (KX b o e) ?_
      by_cases h1 : b = a
      · rw [h1, Ha]
        rcases hu with z | z
        · exact z
        · have := hKa (by rw [z]; simp)
          rw [← h1, e] at this
          cases this
      · refine HN b h1 fun h2 => ?_
        obtain ⟨p, hp, ep⟩ := List.mem_map.mp h2
        rw [← ep, nT p hp] at e
        cases e
    have M : L2.Mod K mg (hidT s₁.heap H) := ⟨KB, nsB hns, ⟨mb, nsB hb, hbb⟩, let ⟨mc, h1, h2⟩ := hlim; ⟨mc, nsB h1, h2⟩⟩
    have TB : ∀ p ∈ cs, TabB (hidT s₁.heap H) mg p.1 p.2 := fun p hp => by
      have hTp := hT p hp
      refine ⟨?_, ?_, fun z => ?_⟩
      · obtain ⟨o, us, file, tf, flags, tg, inF, text, tt, e1, r1, r2, r3, r⟩ := C p hp
        refine ⟨o, us, file, tf, flags, tg, inF, text, tt, bg e1 (plain e1 (fun q n z => ?_) fun z => ?_), r1, r2, r3, r⟩
        · rw [r2] at z; cases z
        · rw [r2] at z
          cases z
          simp at r3
      · obtain ⟨bm, ob, b1, b2, b3, b4, b5, b6⟩ := hbm
        have nG : bm ≠ mainGlobals := fun q => by
          obtain ⟨o, es, ep, e, hd, _⟩ := hns
          rw [q, e] at b3
          cases b3
          rw [hd] at b6
          cases b6
        have nP : bm ≠ p.2 := fun q => by
          rw [q, hTp] at b3
          cases b3
          cases b6
        exact ⟨bm, ob, b1, b2, nG, nP, bg b3 (plain b3 (fun q n z => by rw [b6] at z; cases z) fun z => by rw [b6] at z; cases z), b4, b5, b6⟩
      · obtain ⟨o, es, ep, e, hd, _⟩ := hns
        rw [z, hTp] at e
        cases e
        cases hd
    have e0 : Env0 P w K mg (hidT s₁.heap H) callerA [] s₁ H :=
      ⟨rfl, M, fun b o e => of_hidT e, Nat.le_of_eq (hidT_size _ _), trivial, fun b hb => absurd (show b ∈ ([] : List Addr) from hb) List.not_mem_nil, ok, .of_eq hg⟩
    refine codeAny_mono (law_from Fn S hbind hr B _ M TB (fun p hp => HT _ (inT p hp)) hS e0) fun r s' h => ?_
    obtain ⟨H', rfl, os, bare, un, ok'⟩ := h
    have same : ∀ b o, b ∉ Ts → s₁.heap.get? b = some o → s'.heap.get? b = some o := fun b o nb e => by
      by_cases h1 : b = a
      · rcases hu with z | z
        · exact un.keep b o e (by rw [h1, Ha, z]) (by simp) (by simp)
        · have z1 : H a = some (.frz { cls := .type "list", data := .seq vs.toArray } (.lst (ns.map V.int))) := Ha.trans z
          obtain ⟨e2, _⟩ := ok' a _ (un.frzs a _ _ z1)
          rw [h1] at e ⊢
          rw [ha] at e
          cases e
          exact e2
      · exact un.keep b o e (HN b h1 nb) (by simp) (by simp)
    have grown : ∀ b, b ∈ Ts → ∃ more : Array Value, s'.heap.get? b = some { cls := .none, data := .fields more } := fun b h => by
      obtain ⟨more, z⟩ := un.tbls b #[] (HT b h)
      exact ⟨_, ok' b _ z⟩
    refine ⟨rfl, ⟨fun b o e => ?_, fun b o e => ?_⟩, os, bare⟩
    · by_cases h : b ∈ Ts
      · obtain ⟨more, hm⟩ := grown b h
        obtain ⟨p, hp, rfl⟩ := List.mem_map.mp h
        rw [hT p hp] at e
        cases e
        exact .inr (.inl ⟨((C p hp).tab (hT p hp)).isCodeTable, rfl, #[], more, rfl, by rw [Array.empty_append]; exact hm⟩)
      · exact .inl (same b o h e)
    · by_cases h : b ∈ Ts
      · obtain ⟨more, hm⟩ := grown b h
        exact ⟨_, hm⟩
      · exact ⟨o, same b o h e⟩
  cases hk : K.lookup a with
  | some o =>
    have e := KX a o hk
    rw [ha] at e
    cases e
    refine frame none (.inl rfl) (fun h => (h rfl).elim) (.inr ⟨_, vs.toArray, _, hk, rfl, rfl, rfl, ?_, by simpa using rv⟩)
    rw [List.size_toArray, hi.length]
    exact hl
  | none => exact frame _ (.inr rfl) (fun _ => hk) (.inl (.inr ⟨_, if_pos rfl⟩))
end
end Pu
set_option Elab.async false
set_option linter.all false
set_option maxRecDepth 100000
set_option maxHeartbeats 4000000
/-! enumerate of a tuple; for over either; calls by keywords alone; len(set(ints)). -/
namespace Pu
open PySem PySem.Spec PyProof.Rows L2 GxR

theorem meets_enum_tup (l : Addr) (items : Array Value) (n : Nat) (dct : Option Addr) (sl : Array (Option Value)) :
    Meets (Builtin.«enumerate.__new__» ⟨[.type "enumerate", .ref l], []⟩) (fun _ R s => s.heap.get? l = some { cls := .type "tuple", dict := dct, data := .seq items n, slots := sl } ∧
      R (.ok (.ret (.ref (s.heap.push { cls := .type "tuple_iterator", data := .fields #[.ref l, .int 0 0] }).objs.size)))
        { s with heap := (s.heap.push { cls := .type "tuple_iterator", data := .fields #[.ref l, .int 0 0] }).push { cls := .type "enumerate", data := .fields #[.none, .bool false, .ref s.heap.objs.size, rawInt 0, .none, .none] } }) :=
  .of_wp fun prog w A R s h => by
    obtain ⟨hp, g, d, tk, os⟩ := s
    obtain ⟨hl, h⟩ := h
    have sub := sub_enumerate
    have hL : Heap.IsTuple (Shared.heap ⟨hp, g, d, tk, os⟩) l items := ⟨_, hl, rfl, n, rfl⟩
    wp_walk using wpAny_loadPart' hl
    refine wpAny_stack_any fun st => wpAny_pure ?_
    split
    · rename_i c _ _ _ _ _
      cases (c == Value.type "enumerate")
      all_goals
        wp_walk using wpAny_loadPart' hl, wpAny_pyIter_tuple hL
        exact ⟨_, rfl, h⟩
    · wp_walk using wpAny_loadPart' hl, wpAny_pyIter_tuple hL
      exact ⟨_, rfl, h⟩

section
variable {prog : Program} {w : World} {A : Around} {E : Value → Shared → Prop} {s : Shared}
theorem call_enum_tup {t : Addr} {items : Array Value} {Q : Value → Shared → Prop} (hL : s.heap.IsTuple t items)
    (h : ∀ h', IsEnum h' (s.heap.objs.size + 1) s.heap.objs.size 0 .none → h'.IsTupleIter s.heap.objs.size t 0 → (∀ b o, s.heap.get? b = some o → h'.get? b = some o) → Q (.ref (s.heap.objs.size + 1)) { s with heap := h' }) :
    wpAny (model prog w) A (call (.type "enumerate") [.ref t]) Q E s := by
  obtain ⟨⟨c, dct, dt, sl⟩, hl, hc, n, hd⟩ := hL
  have hc2 : c = .type "tuple" := hc
  have hd2 : dt = .seq items n := hd
  subst hc2 hd2
  refine callType_new F.called_enumerate (by decide) (F.typeCall_enumerate_1 _) (F.newCall_enumerate_1 _) (fun obj => F.args_object_init_2 obj _) F.entry_enumerate_new (meets_enum_tup t items n dct sl) ⟨hl, ?_⟩
  have hz : (s.heap.push { cls := .type "tuple_iterator", data := .fields #[.ref t, .int 0 0] }).objs.size = s.heap.objs.size + 1 := Heap.size_push ..
  show _ ∧ _
  rw [hz]
  have he : IsEnum ((s.heap.push { cls := .type "tuple_iterator", data := .fields #[.ref t, .int 0 0] }).push
      { cls := .type "enumerate", data := .fields #[.none, .bool false, .ref s.heap.objs.size, rawInt 0, .none, .none] }) (s.heap.objs.size + 1) s.heap.objs.size 0 .none := by
    have q := Heap.get?_push_size (s.heap.push { cls := .type "tuple_iterator", data := .fields #[.ref t, .int 0 0] })
      (o := { cls := .type "enumerate", data := .fields #[.none, .bool false, .ref s.heap.objs.size, rawInt 0, .none, .none] }) rfl
    rw [hz] at q
    exact q
  exact ⟨⟨_, he, rfl⟩, h _ he ⟨_, Heap.get?_push_of_some _ (Heap.get?_push_size _ rfl), rfl, rfl⟩ fun b o x => Heap.get?_push_of_some _ (Heap.get?_push_of_some _ x)⟩
end
/-- the tuple at a as it stands at each turn, each item in a new pair -/
def Ite2 (K : PySem.W.Frag) (a : Addr) : It :=
  ⟨fun i H => ∃ (xs : List V) (x : V), SqT K H a xs ∧ xs[i]? = some x,
    fun i H v H' => ∃ T x, v = .ref T ∧ H T = none ∧ H' = upd H T (.tup [.int (i : Nat), x]) ∧ ∀ xs, SqT K H a xs → xs[i]? = some x,
    fun i H => ∃ xs : List V, SqT K H a xs ∧ xs.length = i⟩
theorem turn_enumT {P : Program} {w : World} {K : PySem.W.Frag} {elts : List Expr} {kk : Nat} {tpos : Pos} (a e it : Addr) (hat : a ≠ it) (hae : a ≠ e) :
    Turn P w K (.Tuple elts kk tpos) (Ite2 K a) [e, it] e (fun i h => (∃ old, IsEnum h e it ((i : Nat) : Int) old) ∧ h.IsTupleIter it a i ∧ e ≠ it) where
  mem := by simp
  obj := fun i h st b hb => by
    obtain ⟨⟨old, he⟩, ⟨o, ho, hc, hd⟩, _⟩ := st
    rcases List.mem_cons.mp hb with z | z
    · rw [z]
      exact ⟨_, he, fun v q => nomatch q⟩
    · rw [List.mem_singleton.mp z]
      exact ⟨o, ho, fun v q => by rw [hd] at q; cases q⟩
  keep := fun i h h' st k => by
    obtain ⟨⟨old, he⟩, hi, hne⟩ := st
    exact ⟨⟨old, k e (by simp) _ he⟩, hi.at fun o q => k it (by simp) o q, hne⟩
  item := by
    intro X hP hw hK hc i pins s σ H E I hf st hg
    subst hP hw hK
    obtain ⟨⟨old, he⟩, hit, hne⟩ := st
    obtain ⟨xs, x, hq, hx⟩ := hg
    obtain ⟨its, rv, p, hz⟩ := I.tuple hq
    obtain ⟨u, hu, ru⟩ := rv.get hx
    have hel : e < s.heap.objs.size := Heap.lt_size he
    have hil : it < s.heap.objs.size := by
      obtain ⟨_, q, _⟩ := hit
      exact Heap.lt_size q
    have hd : X.A.handled = none := I.ok.hd hc
    have hlt : i < its.toArray.size := by
      rw [List.size_toArray]
      exact (List.getElem?_eq_some_iff.mp hu).1
    refine wpAny_pyNext_enum_itemD (Draws.tuple (A := X.A.in1) hd it a hat its.toArray) he ⟨hit, p⟩ hlt hne (by simp [hne, Ne.symm hae]) fun x' h' tk hP ho st' hT hsz hk => ?_
    have ex : x' = u := by
      have q : its.toArray[i]? = some x' := hP
      rw [List.getElem?_toArray, hu] at q
      exact (Option.some.inj q).symm
    subst ex
    refine ⟨_, rfl, wpAny_letOwnedTupleGo_enum (s := { s with heap := h', toks := tk + 1 }) ho fun h'' he' sb => ?_⟩
    have hT2 : h''.get? s.heap.objs.size = some { cls := .type "tuple", data := .seq #[.int i tk, x'] } := (sb.2 _ (Nat.ne_of_gt hel)).trans hT
    have new : ObjOk X.prog X.w (upd H s.heap.objs.size (.tup [.int (i : Nat), x])) h'' s.heap.objs.size (.tup [.int (i : Nat), x]) :=
      ⟨by show 2 ≤ sizeLine; decide, [.int i tk, x'], .cons ⟨_, rfl⟩ (.cons ru .nil), ⟨_, hT2, rfl, _, rfl⟩⟩
    have I1 : Inv X pins σ (upd H s.heap.objs.size (.tup [.int (i : Nat), x])) { s with heap := h'', toks := tk + 1 } :=
      I.turnedNew (ch := [e, it]) (fun b ob hb q => (sb.2 b (fun z => hb (by simp [z]))).trans (hk b ob (fun z => hb (by simp [z])) (fun z => hb (by simp [z])) q)) hf (Nat.le_refl _) new
    refine ⟨.ref s.heap.objs.size, _, I1, rfl, ⟨_, x, rfl, I.hok.fresh (Nat.le_refl _), rfl, fun ys hy => by rw [I.tuple_inj hy hq]; exact hx⟩, ⟨⟨x', ?_⟩, st'.1.at fun o q => (sb.2 it (Ne.symm hne)).trans q, hne⟩, fun b hb => ?_⟩
    · have e1 : ((i + 1 : Nat) : Int) = (i : Int) + 1 := by omega
      rw [e1]
      exact he'
    · have hb2 : b < s.heap.objs.size := by
        rcases List.mem_cons.mp hb with z | z
        · rw [z]; exact hel
        · rw [List.mem_singleton.mp z]; exact hil
      rw [upd_ne (Nat.ne_of_lt hb2)]
      exact (hf b hb).1
  done := by
    intro X hP hw hK hc i pins s σ H E I hf st hg
    subst hP hw hK
    obtain ⟨⟨old, he⟩, hit, hne⟩ := st
    obtain ⟨xs, hq, hx⟩ := hg
    obtain ⟨its, rv, p, hz⟩ := I.tuple hq
    obtain ⟨f0, f1, f2, f3, f4, f5⟩ := hf it (by simp)
    have hl := rv.length
    have hd : X.A.handled = none := I.ok.hd hc
    have hi : i = its.toArray.size := by rw [List.size_toArray, ← hl, hx]
    subst hi
    exact wpAny_pyNext_enum_endD (Draws.tuple (A := X.A.in1) hd it a hat its.toArray) he ⟨hit, p⟩ fun h' eb => ⟨rfl, I.turned (t' := s.toks) (fun b o hb q => eb b o hb q) f0 f1 f3 f4 f5⟩
  self := fun A i s Q E st h => by
    obtain ⟨⟨_, he⟩, _⟩ := st
    exact wpAny_pyIter_enum he h
theorem walk_enumT {K : PySem.W.Frag} {a : Addr} {xs : List V} :
    Walk (Ite2 K a) xs.length (fun H => SqT K H a xs) (YPair (fun i => some (.int (i : Nat))) (fun i => xs[i]?)) := by
  refine ⟨fun i _ hi q => ⟨xs, xs[i], q, by simp [hi]⟩, fun _ q => ⟨xs, q, rfl⟩, fun i H v H' _ q y => ?_⟩
  obtain ⟨T, x, h1, h2, h3, h4⟩ := y
  exact ⟨T, .int (i : Nat), x, h1, h2, h3, rfl, h4 xs q⟩
def iEnumT (K : PySem.W.Frag) (ta : TA) : TI := fun σ H R => ta σ H fun vs H1 => ∃ a xs, vs = [.ref a] ∧ SqT K H1 a xs ∧ R (Ite2 K a) H1
section
variable {X : Cx} {tg : Expr}
theorem pi_enumT {e : Expr} {ta : TA} {p pos tpos : Pos} {elts : List Expr} {kk : Nat} (hg : Gl X "enumerate") (hm : X.mg "enumerate" = none) (ha : PA X [e] ta) (hs : starEach [e] X.env = [(false, eval e X.env)] := by rfl) :
    PI X (.Tuple elts kk tpos) (.Call (.Name "enumerate" p) [e] [] pos) (iEnumT X.K ta) := by
  refine ⟨fun pins s σ H R I h => Call_ (ld_blt I hg hm boot_enumerate (PyProof.Rows.callWith_type1 (thn (ha.run pos pins s σ H _ I h) fun us s1 ⟨vs, H1, I1, r1, q1⟩ => ?_) hs rfl))⟩
  obtain ⟨a, xs, rfl, hq, q⟩ := q1
  obtain ⟨u, rfl, r⟩ := vals1 r1
  cases (show u = Value.ref a from r)
  obtain ⟨its, rv, p', hz⟩ := I1.tuple hq
  have hat : a < s1.heap.objs.size := p'.lt
  refine call_enum_tup (show s1.heap.IsTuple a its.toArray from p') fun h' he hit hk => wpAny_pyIter_enum he ?_
  have I2 : Inv X pins σ H1 { s1 with heap := h' } := I1.kept (t' := s1.toks) hk
  refine ⟨s1.heap.objs.size + 1, [s1.heap.objs.size + 1, s1.heap.objs.size], _, _, H1, rfl, I2, turn_enumT a (s1.heap.objs.size + 1) s1.heap.objs.size (Nat.ne_of_lt hat) (Nat.ne_of_lt (Nat.lt_succ_of_lt hat)), ⟨⟨.none, he⟩, hit, Nat.succ_ne_self _⟩, fun b hb => ?_, q⟩
  have hle : s1.heap.objs.size ≤ b := by
    rcases List.mem_cons.mp hb with z | z
    · rw [z]
      exact Nat.le_add_right _ _
    · rw [List.mem_singleton.mp z]
      exact Nat.le_refl _
  exact I1.fpOk hle (I1.hok.fresh hle)

/-- a, b = a tuple or a list of two .. -/
def gSeq (K : PySem.W.Frag) (n : Nat) (t : TGs) : TG := fun v σ H Q => ∃ a xs, v = .ref a ∧ (SqT K H a xs ∨ SqL K H a xs) ∧ xs.length = n ∧ t xs σ H Q
theorem pg_seq {es : List Expr} {k : Nat} {pos : Pos} {t : TGs} {n : Nat} (hc : X.calm = true) (h : PGs X es t) (hn : (assignEach es X.env).length = n := by rfl) (hst : (assignEach es X.env).findIdx? (·.1) = none := by rfl) :
    PG X (.Tuple es k pos) (gSeq X.K n t) := by
  refine ⟨fun pins s σ H v u Q I r hw => ?_⟩
  obtain ⟨a, xs, e, hq | hq, hl, hw⟩ := hw
  · exact (pg_tup (n := n) hc h hn hst).run pins s σ H v u Q I r ⟨a, xs, e, hq, hl, hw⟩
  · exact (pg_lst (n := n) hc h hn hst).run pins s σ H v u Q I r ⟨a, xs, e, hq, hl, hw⟩
/-- for over a tuple or a list: whichever it is -/
def iSeq (K : PySem.W.Frag) (tl : TE) : TI := fun σ H R => tl σ H fun v H1 => ∃ (a : Addr) (xs : List V), v = .ref a ∧ (SqT K H1 a xs ∨ SqL K H1 a xs) ∧
  ∀ (J : It) (G : Hp → Prop), Walk J xs.length G (YAt xs) → (∀ H', Evl.Ex H1 H' → G H') → R J H1
theorem pi_seq {l : Expr} {tl : TE} (hl : PE X l tl) : PI X tg l (iSeq X.K tl) := by
  refine ⟨fun pins s σ H R I h => thn (hl.run pins s σ H _ I h) fun v s1 ⟨x, H1, I1, r1, q1⟩ => ?_⟩
  obtain ⟨a, xs, rfl, hq, q⟩ := q1
  cases (show v = Value.ref a from r1)
  have fin : ∀ b ∈ [s1.heap.objs.size], FpOk X pins H1 b := fun b hb => by
    rw [List.mem_singleton.mp hb]
    exact I1.fpOk (Nat.le_refl _) (I1.hok.fresh (Nat.le_refl _))
  rcases hq with hq | hq
  · obtain ⟨its, rv, p, hz⟩ := I1.tuple hq
    refine wpAny_pyIter_tuple (show s1.heap.IsTuple a its.toArray from p) ?_
    exact ⟨s1.heap.objs.size, [s1.heap.objs.size], _, _, H1, rfl, I1.kept (t' := s1.toks) (fun b o e => Heap.get?_push_of_some _ e), turn_tuple a _, ⟨_, Heap.get?_push_size _ rfl, rfl, rfl⟩, fin, q _ _ walk_tup fun H' e => Evl.ex_t e hq⟩
  · obtain ⟨its, rv, p, hz⟩ := I1.list hq
    refine wpAny_pyIter_list p.isList ?_
    exact ⟨s1.heap.objs.size, [s1.heap.objs.size], _, _, H1, rfl, I1.kept (t' := s1.toks) (fun b o e => Heap.get?_push_of_some _ e), turn_list a _, ⟨_, Heap.get?_push_size _ rfl, rfl, rfl⟩, fin, q _ _ walk_list fun H' e => Evl.ex_l e hq⟩

/-- f(k = v, ..) -/
def tCallW (sp : Sp) (gV : List V → List V) (E : XK) (tk : TA) : TE := fun σ H Q => tk σ H fun zs H2 => sp (gV zs) H2 Q E
structure KwOk (K : PySem.W.Frag) (fd : FuncData) (ps ks : List Str) (g : List Value → List Value) (gV : List V → List V) : Prop where
  to : ∀ (s : Shared) (ws : List Value), K.In s.heap → (g ws).length = ps.length → BindsTo s fd ⟨[], ks.zip ws⟩ (ps.zip (g ws))
  rel : ∀ {zs : List V} {ws : List Value}, Vals zs ws → Vals (gV zs) (g ws)
theorem pe_callW {CX : CXT} {k : Nat} {f : Addr} {fd : FuncData} {ps ks : List Str} {sp : Sp} {E : XK} {x : Str} {p pos : Pos} {kws : List Keyword} {tk : TA} {g : List Value → List Value} {gV : List V → List V}
    (F : FnOk X.prog X.w X.K X.mg X.base CX k f fd ps sp) (hr : Room k X.A) (hg : Gl X x) (hm : X.mg x = some (.ref f)) (hk : PySem.W.keepIn X.K (.ref f) = true) (hb : KwOk X.K fd ps ks g gV) (hx : Passes CX X E)
    (hkw : PK X kws tk) (hall : (backToKw pos (keywordEach kws X.env)).all (·.1.isSome) = true := by rfl) (hks : (backToKw pos (keywordEach kws X.env)).filterMap (·.1) = ks := by rfl)
    (hdb : (x == ("__debug__" : Str)) = false := by decide) (hpl : ((backTo pos (starEach [] X.env)).any (·.1) || (backToKw pos (keywordEach kws X.env)).any (·.1.isNone)) = false := by rfl) :
    PE X (.Call (.Name x p) [] kws pos) (tCallW sp gV E tk) := by
  refine ⟨fun pins s σ H Q I h => wpAny_Call_Name_kw (ld_glob I hg hm (PySem.W.callWith_KW0 (h₀ := X.base) I.ok.mod.kin hk hall ?_ hpl) hdb)⟩
  refine thn (hkw.run pos pins s σ H _ I h) fun ws s2 ⟨zs, H2, I2, rz, q2⟩ => ⟨I2.kIn, ?_⟩
  rw [hks]
  show wpAny _ _ (call (.ref f) [] (ks.zip ws)) _ _ _
  have r2 := hb.rel rz
  have hl : (g ws).length = ps.length := by rw [← r2.length]; exact F.len _ _ _ _ q2
  refine wpAny_call (codeAny_mono (F.run X.A X.stack s2 H2 ⟨[], ks.zip ws⟩ (g ws) (gV zs) Q E hr I2.env0 (hb.to s2 ws I2.kIn hl) r2 q2) fun r s' hq => ?_)
  cases r with
  | error e => exact hx pins σ H2 s2 e s' I2 hq
  | ok fl =>
    cases fl with
    | ret u => exact I2.after hq
    | next => exact False.elim hq
    | brk => exact False.elim hq
    | cont => exact False.elim hq

/-- len(set(ints)) -/
def tLenSet (K : PySem.W.Frag) (ta : TE) : TE := fun σ H Q => ta σ H fun x H1 => ∃ (l : Addr) (ns : List Int), x = .ref l ∧ SqL K H1 l (ns.map V.int) ∧ ns.length ≤ 4000 ∧ Q (.int ((PyProof.Rows.firstMet (fun i => ns.getD i 0) ns.length).length : Nat)) H1
theorem pe_lenSet {a : Expr} {ta : TE} {p p2 q pos : Pos} (hg : Gl X "len") (hm : X.mg "len" = none) (hg2 : Gl X "set") (hm2 : X.mg "set" = none) (ha : PE X a ta) (hc : X.calm = true := by rfl)
    (na : starEach [a] X.env = (false, eval a X.env) :: starEach [] X.env := by rfl) : PE X (.Call (.Name "len" p) [.Call (.Name "set" p2) [a] [] q] [] pos) (tLenSet X.K ta) := by
  refine ⟨fun pins s σ H Q I h => Call_ (ld_blt I hg hm boot_len (PyProof.Rows.callWith_builtin1 (PyProof.Rows.args_cons (Call_ (ld_blt I hg2 hm2 boot_set ?_)) rfl) rfl rfl))⟩
  refine PyProof.Rows.callWith_type1 (PyProof.Rows.args_cons (thn (ha.run pins s σ H _ I h) fun v s1 ⟨x, H1, I1, r1, q1⟩ => PyProof.Rows.args_nil ?_) na) na rfl
  obtain ⟨l, ns, rfl, hq, hl, q1⟩ := q1
  cases (show v = Value.ref l from r1)
  obtain ⟨its, r, pl, hz⟩ := I1.list hq
  have hlen : its.toArray.size = ns.length := by rw [List.size_toArray, ← r.length, List.length_map]
  refine call_set_list (I1.ok.hd hc) pl.isList (by simpa using RZ.intsAre_vals r) (by rw [hlen]; unfold scanBound; omega) fun h' tk hS hk => PyProof.Rows.args_nil ?_
  rw [hlen] at hS
  have hle := PyProof.Rows.firstMet_length_le (fun i => ns.getD i 0) ns.length
  obtain ⟨o, es, ep, t, ho, hex, hd, _, _, _, hf, hn⟩ := hS
  have I2 : Inv X pins σ H1 { s1 with heap := h', toks := tk } := I1.kept fun b o e => hk b o (Heap.lt_size e) e
  exact call_len_set ho hex hd hf (by rw [hn] <;> omega) ⟨.int _, H1, I2.tok _, ⟨_, by rw [hn]⟩, q1⟩
end
end Pu
set_option Elab.async false
set_option linter.all false
set_option maxRecDepth 100000
set_option maxHeartbeats 4000000
/-! what values are, at a heap; the builtins that tell it; a pure def as a promise of the layer. -/
namespace Pu
open PySem PySem.Spec PyProof.Rows L2 GxR

/-- a tuple (b = true) or a list of these, at a -/
def SeqG (g : Heap) (b : Bool) (a : Addr) (its : List Value) : Prop := its.length ≤ sizeLine ∧ if b = true then IsTup g a its.toArray else PlainL g a its.toArray
theorem SeqG.mono {g h : Heap} {b : Bool} {a : Addr} {its : List Value} (x : SeqG g b a its) (e : Ext g h) : SeqG h b a its := by
  refine ⟨x.1, ?_⟩
  cases b with
  | true =>
    obtain ⟨o, ho, r⟩ := (show IsTup g a its.toArray from x.2)
    exact ⟨o, e _ _ ho, r⟩
  | false => exact (show PlainL g a its.toArray from x.2).keeps e
inductive TyG (g : Heap) : V → String → Prop
  | non : TyG g .non "NoneType"
  | bl (b : Bool) : TyG g (.bl b) "bool"
  | int (i : Int) : TyG g (.int i) "int"
  | str (x : Str) : TyG g (.str x) "str"
  | tup {a : Addr} {its : List Value} (h : SeqG g true a its) : TyG g (.ref a) "tuple"
  | lst {a : Addr} {its : List Value} (h : SeqG g false a its) : TyG g (.ref a) "list"
theorem TyG.mono {g h : Heap} {x : V} {t : String} (y : TyG g x t) (e : Ext g h) : TyG h x t := by
  cases y with
  | non => exact .non
  | bl b => exact .bl b
  | int i => exact .int i
  | str x => exact .str x
  | tup q => exact .tup (q.mono e)
  | lst q => exact .lst (q.mono e)
theorem TyG.kit {K : PySem.W.Frag} {g : Heap} {x : V} {t : String} {u : Value} (y : TyG g x t) (r : RelV x u) : ∃ P : Heap → Prop, PySem.W.KitX K u (.type t) P ∧ P g ∧ u ≠ .builtin "__main__.__loader__#opaque" := by
  cases y with
  | non => cases (show u = Value.none from r); exact ⟨_, PySem.W.kitx_none, True.intro, fun z => nomatch z⟩
  | bl b => cases (show u = Value.bool b from r); exact ⟨_, PySem.W.kitx_bool, True.intro, fun z => nomatch z⟩
  | int i => obtain ⟨t, rfl⟩ := (show ∃ t, u = Value.int i t from r); exact ⟨_, PySem.W.kitx_int, True.intro, fun z => nomatch z⟩
  | str y => obtain ⟨t, rfl⟩ := (show ∃ t, u = Value.str y t from r); exact ⟨_, PySem.W.kitx_str, True.intro, fun z => nomatch z⟩
  | @tup a its q =>
    cases (show u = Value.ref a from r)
    obtain ⟨o, h1, h2, _⟩ := (show IsTup g a its.toArray from q.2)
    exact ⟨_, PySem.W.kitx_tuple, ⟨o, h1, h2⟩, fun z => nomatch z⟩
  | @lst a its q =>
    cases (show u = Value.ref a from r)
    obtain ⟨o, n, h1, h2, _⟩ := (show PlainL g a its.toArray from q.2)
    exact ⟨_, PySem.W.kitx_list, ⟨o, h1, h2⟩, fun z => nomatch z⟩
/-- what kind of thing an abstract heap tells -/
theorem TyG.of_sq {P : Program} {w : World} {K : PySem.W.Frag} {H : Hp} {h : Heap} {a : Addr} {xs : List V} (ok : HOk P w H h) (kin : K.In h) (q : SqT K H a xs ∨ SqL K H a xs) : ∃ (b : Bool) (its : List Value), Vals xs its ∧ SeqG h b a its := by
  rcases q with q | q
  · rcases q with q | ⟨o, its, n, hk, hc, hs, hz, r⟩
    · obtain ⟨z, its, r, p⟩ := q.ok ok
      exact ⟨true, its, r, by rw [← r.length]; exact z, p⟩
    · refine ⟨true, its.toList, r, by simpa using hz, ?_⟩
      exact ⟨o, kin a o hk, hc, n, by simpa using hs⟩
  · rcases q with q | ⟨o, its, n, hk, hc, hd, hs, hz, r⟩
    · obtain ⟨z, its, n, r, e⟩ := q.ok ok
      exact ⟨false, its, r, by rw [← r.length]; exact z, ⟨_, n, e, rfl, rfl, rfl⟩⟩
    · exact ⟨false, its.toList, r, by simpa using hz, ⟨o, n, kin a o hk, hc, hd, by simpa using hs⟩⟩
theorem TyG.seq {g : Heap} {b : Bool} {a : Addr} {its : List Value} (q : SeqG g b a its) : TyG g (.ref a) (if b = true then "tuple" else "list") := by
  cases b with
  | true => exact .tup q
  | false => exact .lst q

section
variable {P : Program} {w : World} {K : PySem.W.Frag} {mg : Str → Option Value} {base : Heap} {A : Around} {env : Env} {g : Heap}
/-- isinstance(x, T) -/
theorem ev_isi {p q pos : Pos} {e : Expr} {n : Str} {T t : String} {x : V} {b : Bool} (F : FrP K mg base A env g) (hg : env.kindOf "isinstance" = some .globalImplicit) (hm : mg "isinstance" = none) (he : EV P w A env g e x) (ty : TyG g x t)
    (hg2 : env.kindOf n = some .globalImplicit) (hm2 : mg n = none) (hv : bootBuiltins n = some (.type T)) (kb : kitB t T = some b) (hn : n ≠ "__name__" := by decide) (hd : (n == ("__debug__" : Str)) = false := by decide)
    (h1 : starEach [e, .Name n q] env = (false, eval e env) :: starEach [.Name n q] env := by rfl) (h2 : starEach [.Name n q] env = (false, eval (.Name n q) env) :: starEach [] env := by rfl)
    (hpl : (backTo pos (starEach [.Name n q] env)).any (·.1) = false := by rfl) (hvi : bootBuiltins "isinstance" = some (.builtin "isinstance") := by decide +kernel) : EV P w A env g (.Call (.Name "isinstance" p) [e, .Name n q] [] pos) (.bl b) := by
  refine ev_bltcall (vs := [x, .ty T]) F hg hm hvi (ea_cons he (ea_cons (ev_blt (v := .ty T) F hg2 hm2 hv rfl hn hd) ea_nil h2) h1) (fun s us Q E hx r hQ => ?_) (by decide) (by decide) h1 hpl
  obtain ⟨u1, u2, rfl, r1, r2⟩ := vals2 r
  cases (show u2 = Value.type T from r2)
  obtain ⟨Pp, Z, pp, hne⟩ := (ty.mono hx).kit (K := K) r1
  exact PySem.W.kia_one Z (F.mod.kin.keeps fun b o e => hx b o (F.ext b o e)) pp (kit_ty kb) hne fun tk => hQ _ s.heap tk rfl fun _ _ e => e
/-- isinstance(x, (T, ..)) -/
theorem ev_isiT {p pos tp : Pos} {k : Nat} {e : Expr} {es : List Expr} {Ts : List String} {t : String} {x : V} {b : Bool} (F : FrP K mg base A env g) (hg : env.kindOf "isinstance" = some .globalImplicit) (hm : mg "isinstance" = none) (he : EV P w A env g e x) (ty : TyG g x t)
    (ha : EA P w A env g es (Ts.map V.ty)) (kb : PySem.W.kitAny K (.type t) (Ts.map Value.type) = some b) (hl : Ts.length ≤ 1000)
    (h1 : starEach [e, .Tuple es k tp] env = (false, eval e env) :: starEach [.Tuple es k tp] env := by rfl) (h2 : starEach [.Tuple es k tp] env = (false, eval (.Tuple es k tp) env) :: starEach [] env := by rfl)
    (hpl : (backTo pos (starEach [.Tuple es k tp] env)).any (·.1) = false := by rfl) (hvi : bootBuiltins "isinstance" = some (.builtin "isinstance") := by decide +kernel) : EV P w A env g (.Call (.Name "isinstance" p) [e, .Tuple es k tp] [] pos) (.bl b) := fun s Q E hx hQ => by
  obtain ⟨mb, q1, q2⟩ := F.mod.blt
  have hb : Ext base s.heap := fun b o e => hx b o (F.ext b o e)
  refine wpAny_Call_Name_kw (Calls.Name_function_global F.kind hg (Calls.loadGlobal_builtin (by rw [F.glob]; exact F.mod.glob.keeps hb) hm (by rw [F.blt]; exact q1.keeps hb) ((q2 _ (by decide)).trans hvi) ?_) (by decide))
  refine PyProof.Rows.callWith_builtin1 ?_ h1 hpl
  rw [h1]
  show wpAny _ _ (spliced ((false, eval e env) :: backTo pos (starEach [.Tuple es k tp] env))) _ _ s
  refine Calls.spliced_cons (he s _ E hx fun u h' tk r hk => ?_)
  rw [h2]
  show wpAny _ _ (spliced ((false, eval (.Tuple es k tp) env) :: backTo pos (starEach [] env))) _ _ _
  refine Calls.spliced_cons (wpAny_Tuple_spliced (ha _ { s with heap := h', toks := tk } _ E (fun b o e => hk b o (hx b o e)) fun us h2 t2 r2 k2 => ⟨?_, Calls.spliced_nil ?_⟩))
  · rw [← r2.length, List.length_map]
    exact Nat.le_trans hl (by decide)
  · have e2 : us = Ts.map Value.type := by
      clear kb hl hQ ha
      induction Ts generalizing us with
      | nil => cases r2; rfl
      | cons T Ts ih =>
        cases r2 with
        | cons ra rb =>
          rw [show _ = Value.type T from ra, ih _ rb]
          rfl
    subst e2
    have kx : Ext s.heap (h2.push { cls := .type "tuple", data := .seq (Ts.map Value.type).toArray }) := fun b o e => Heap.get?_push_of_some _ (k2 b o (hk b o e))
    have gx : Ext g (h2.push { cls := .type "tuple", data := .seq (Ts.map Value.type).toArray }) := fun b o e => kx b o (hx b o e)
    obtain ⟨Pp, Z, pp, hne⟩ := (ty.mono gx).kit (K := K) r
    exact PySem.W.kia_tup Z (F.mod.kin.keeps fun b o e => gx b o (F.ext b o e)) pp (Heap.get?_push_size _ rfl) kb hne fun tk3 => hQ _ _ tk3 rfl kx
/-- len(x) of a tuple or a list -/
theorem ev_len {p pos : Pos} {e : Expr} {a : Addr} {bb : Bool} {its : List Value} (F : FrP K mg base A env g) (hg : env.kindOf "len" = some .globalImplicit) (hm : mg "len" = none) (he : EV P w A env g e (.ref a)) (sq : SeqG g bb a its)
    (h1 : starEach [e] env = (false, eval e env) :: starEach [] env := by rfl) (hpl : (backTo pos (starEach [] env)).any (·.1) = false := by rfl) : EV P w A env g (.Call (.Name "len" p) [e] [] pos) (.int its.length) := by
  refine ev_bltcall (vs := [.ref a]) F hg hm boot_len (ea_cons he ea_nil h1) (fun s us Q E hx r hQ => ?_) (by decide) (by decide) h1 hpl
  obtain ⟨u, rfl, r1⟩ := vals1 r
  cases (show u = Value.ref a from r1)
  have hl := line63
  have hz := (sq.mono hx).1
  have hsz : its.toArray.size = its.length := by simp
  have fin : ∀ t1 t2, Q (.int its.length t1) { s with toks := t2 } := fun t1 t2 => hQ _ s.heap t2 ⟨_, rfl⟩ fun _ _ e => e
  cases bb with
  | true => exact len_tuple (show IsTup s.heap a its.toArray from (sq.mono hx).2) (by rw [hsz]; omega) (by rw [hsz]; exact fin _ _)
  | false => exact Calls.call_len_list (show PlainL s.heap a its.toArray from (sq.mono hx).2).isList (by rw [hsz]; omega) (by rw [hsz]; exact fin _ _)
/-- x[i], i written -/
theorem ev_ix {pos : Pos} {e ie : Expr} {a : Addr} {bb : Bool} {its : List Value} {j : Nat} {u : Value} {v : V} (F : FrP K mg base A env g) (he : EV P w A env g e (.ref a)) (hi : EV P w A env g ie (.int j)) (sq : SeqG g bb a its) (hj : its[j]? = some u) (r : RelV v u) (hs : PlainIx ie := by exact fun _ _ => rfl) :
    EV P w A env g (.Subscript e ie pos) v := fun s Q E hx hQ => by
  refine Subscript_ (he s _ E hx fun o h' tk ro hk => hi { s with heap := h', toks := tk } _ E (fun b o e => hk b o (hx b o e)) fun iv h2 t2 ri k2 => ?_)
  cases (show o = Value.ref a from ro)
  obtain ⟨t, rfl⟩ := (show ∃ t, iv = Value.int j t from ri)
  have gx : Ext g h2 := fun b o e => k2 b o (hk b o (hx b o e))
  have lt : j < its.length := (List.getElem?_eq_some_iff.mp hj).1
  have hn := line63
  have hz := sq.1
  have fin : Q u { s with heap := h2, toks := t2 } := hQ u h2 t2 r fun b o e => k2 b o (hk b o e)
  have ej : its.toArray[j]? = some u := by simpa using hj
  cases bb with
  | true =>
    have p : IsTup h2 a its.toArray := (sq.mono gx).2
    exact subscriptTail_builtinR (x := u) p.typeIs slot_tuple_getitem.lookup
      (PyProof.Rows.getItem_tuple (j := j) (Q := fun r s' => r = u ∧ Q r s') p (by omega) (by omega) (seqIndex_of (by omega) (by simpa using lt)) ej ⟨rfl, fin⟩) (hs _ _)
  | false =>
    have p : PlainL h2 a its.toArray := (sq.mono gx).2
    exact item_listR p.isList (by omega) (by omega) (by simpa using ej) fin (hs _ _)
end

/-- a pure def as a promise of the layer -/
def spPure (P : Program) (w : World) (base : Heap) (ps : List Str) (sp : List V → Heap → V → Prop) : Sp := fun vs H Q _ => vs.length = ps.length ∧ ∃ v, (∀ h, HOk P w H h → Ext base h → sp vs h v) ∧ Q v H
theorem PF.ok {P : Program} {w : World} {K : PySem.W.Frag} {mg : Str → Option Value} {base : Heap} {k : Nat} {f : Addr} {fd : FuncData} {ps : List Str} {sp : List V → Heap → V → Prop} (G : PF P w K mg base k f fd ps sp) :
    FnOk P w K mg base CX0 k f fd ps (spPure P w base ps sp) := by
  refine ⟨fun vs H Q E h => h.1, fun A outer s H args us vs Q E hr e0 hb rv h => ?_⟩
  obtain ⟨hl, v, hv, hQ⟩ := h
  have hx : Ext base s.heap := fun b o e => (e0.bs b o e).1
  refine G.run A s args us vs v _ hr hx hb rv hl (hv _ e0.hok hx) fun u h' tk r hk => ?_
  exact ⟨v, H, rfl, e0.bare, Un.kept hk, e0.hok.kept hk, r, hQ⟩
end Pu
/-! shapes by numbers alone -/
namespace Sh
def counts (k m : Nat) : List Nat :=
  if h : k < m ∧ 2 ≤ k then (k - (m - k) % 2) :: counts k ((m - (k - (m - k) % 2)) / 2) else if 0 < m then [m] else []
termination_by m
decreasing_by omega
def tot : List Nat → Nat → Nat
  | [], _ => 0
  | c :: cs, s => tot cs (2 * s) + s * c
def sh (f : Nat) : List Nat → Nat → List (Nat × Nat)
  | [], _ => []
  | c :: cs, s => sh f cs (2 * s) ++ (List.range c).map fun j => (f + tot cs (2 * s) + s * j, s)
/-- the shape of rows f up to l -/
def shp (k f l : Nat) : List (Nat × Nat) := sh f (counts k (l - f)) 1
inductive Val (k : Nat) : List Nat → Prop
  | one {c : Nat} (h1 : 1 ≤ c) (h2 : c ≤ k) : Val k [c]
  | more {c d : Nat} {cs : List Nat} (h : c = k ∨ c + 1 = k) (r : Val k (d :: cs)) : Val k (c :: d :: cs)
theorem tot_scale : ∀ (cs : List Nat) (s : Nat), tot cs s = s * tot cs 1
  | [], s => rfl
  | c :: cs, s => by
    show tot cs (2 * s) + s * c = s * (tot cs (2 * 1) + 1 * c)
    rw [tot_scale cs (2 * s), tot_scale cs (2 * 1), Nat.mul_add, Nat.one_mul, ← Nat.mul_assoc, ← Nat.mul_assoc, Nat.mul_one, Nat.mul_comm 2 s]
theorem tot_cons (c : Nat) (cs : List Nat) : tot (c :: cs) 1 = 2 * tot cs 1 + c := by
  show tot cs (2 * 1) + 1 * c = _
  rw [tot_scale cs (2 * 1)]
  omega
theorem tot_pos {k : Nat} {cs : List Nat} (h : Val k cs) (_ : 2 ≤ k) : 0 < tot cs 1 := by
  induction h with
  | one h1 h2 => rw [tot_cons]; omega
  | more h r ih => rw [tot_cons]; omega
theorem counts_big {k m : Nat} (h : k < m) (hk : 2 ≤ k) : counts k m = (k - (m - k) % 2) :: counts k ((m - (k - (m - k) % 2)) / 2) := by
  rw [counts, dif_pos ⟨h, hk⟩]
theorem counts_small {k m : Nat} (h : ¬ k < m) : counts k m = if 0 < m then [m] else [] := by
  rw [counts, dif_neg fun z => h z.1]
theorem counts_zero (k : Nat) : counts k 0 = [] := by rw [counts_small (by omega)]; rfl
theorem counts_tot {k : Nat} (hk : 2 ≤ k) : ∀ m, tot (counts k m) 1 = m := by
  intro m
  induction m using Nat.strongRecOn with
  | ind m ih =>
    by_cases h : k < m
    · rw [counts_big h hk, tot_cons, ih _ (by omega)]
      omega
    · rw [counts_small h]
      by_cases h0 : 0 < m
      · rw [if_pos h0, tot_cons]
        show 2 * 0 + m = m
        omega
      · rw [if_neg h0]
        show 0 = m
        omega
theorem counts_val {k : Nat} (hk : 2 ≤ k) : ∀ m, 0 < m → Val k (counts k m) := by
  intro m
  induction m using Nat.strongRecOn with
  | ind m ih =>
    intro h0
    by_cases h : k < m
    · rw [counts_big h hk]
      have q := ih ((m - (k - (m - k) % 2)) / 2) (by omega) (by omega)
      generalize counts k ((m - (k - (m - k) % 2)) / 2) = cs at q
      cases q with
      | one a b => exact .more (by omega) (.one a b)
      | more a b => exact .more (by omega) (.more a b)
    · rw [counts_small h, if_pos h0]
      exact .one h0 (by omega)
theorem uniq {k : Nat} {cs : List Nat} (hk : 2 ≤ k) (h : Val k cs) : counts k (tot cs 1) = cs := by
  induction h with
  | @one c h1 h2 =>
    have e : tot [c] 1 = c := by rw [tot_cons]; show 2 * 0 + c = c; omega
    rw [e, counts_small (by omega), if_pos (show 0 < c from h1)]
  | @more c d cs h r ih =>
    have p := tot_pos r hk
    rw [tot_cons, counts_big (by omega) hk]
    have e1 : k - (2 * tot (d :: cs) 1 + c - k) % 2 = c := by omega
    rw [e1]
    have e2 : (2 * tot (d :: cs) 1 + c - c) / 2 = tot (d :: cs) 1 := by omega
    rw [e2, ih]
theorem val_ne {k : Nat} {cs : List Nat} (h : Val k cs) : cs ≠ [] := by
  cases h <;> simp
/-- the spans from some on are the shape from their first row on -/
theorem suffix {k : Nat} : ∀ (cs : List Nat) (s f j : Nat), Val k cs → ∃ cs' f', (cs' = [] ∨ Val k cs') ∧ (sh f cs s).drop j = sh f' cs' s ∧ f' + tot cs' s = f + tot cs s := by
  intro cs
  induction cs with
  | nil => intro s f j h; cases h
  | cons c cs ih =>
    intro s f j h
    -- within the block of the least size
    have blk : ∀ i, 1 ≤ c → (cs = [] ∨ Val k cs) → c ≤ k → ∃ cs' f', (cs' = [] ∨ Val k cs') ∧ ((List.range c).map fun j => (f + tot cs (2 * s) + s * j, s)).drop i = sh f' cs' s ∧ f' + tot cs' s = f + tot (c :: cs) s := by
      intro i h1 _ h2
      by_cases hi : i < c
      · refine ⟨[c - i], f + tot cs (2 * s) + s * i, .inr (.one (by omega) (by omega)), ?_, ?_⟩
        · show _ = [] ++ _
          rw [List.nil_append]
          apply List.ext_getElem
          · simp
          · intro n h1 h2
            simp only [List.getElem_drop, List.getElem_map, List.getElem_range]
            show (f + tot cs (2 * s) + s * (i + n), s) = (f + tot cs (2 * s) + s * i + 0 + s * n, s)
            rw [Nat.mul_add]
            simp only [Prod.mk.injEq, and_true]
            omega
        · show f + tot cs (2 * s) + s * i + (0 + s * (c - i)) = f + (tot cs (2 * s) + s * c)
          have : s * i + s * (c - i) = s * c := by rw [← Nat.mul_add]; congr 1; omega
          omega
      · refine ⟨[], f + tot (c :: cs) s, .inl rfl, ?_, rfl⟩
        rw [List.drop_of_length_le (by simp; omega)]
        rfl
    cases h with
    | one h1 h2 =>
      obtain ⟨cs', f', a, b, e⟩ := blk j h1 (.inl rfl) h2
      exact ⟨cs', f', a, by simpa [sh] using b, e⟩
    | @more _ d ds hc r =>
      by_cases hj : j ≤ (sh f (d :: ds) (2 * s)).length
      · by_cases hj2 : j < (sh f (d :: ds) (2 * s)).length
        · obtain ⟨cs', f', a, b, e⟩ := ih (2 * s) f j r
          have ne : cs' ≠ [] := fun z => by
            subst z
            have q : ((sh f (d :: ds) (2 * s)).drop j).length = 0 := by rw [b]; rfl
            rw [List.length_drop] at q
            omega
          have v : Val k cs' := a.resolve_left ne
          refine ⟨c :: cs', f', .inr ?_, ?_, ?_⟩
          · cases v with
            | one p q => exact .more hc (.one p q)
            | more p q => exact .more hc (.more p q)
          · show ((sh f (d :: ds) (2 * s)) ++ _).drop j = sh f' cs' (2 * s) ++ _
            rw [List.drop_append_of_le_length hj, b, e]
          · show f' + (tot cs' (2 * s) + s * c) = f + (tot (d :: ds) (2 * s) + s * c)
            omega
        · have hj3 : j = (sh f (d :: ds) (2 * s)).length := by omega
          by_cases c0 : c = 0
          · refine ⟨[], f + tot (c :: d :: ds) s, .inl rfl, ?_, rfl⟩
            rw [hj3, c0]
            simp [sh]
          · obtain ⟨cs', f', a, b, e⟩ := blk 0 (by omega) (.inr r) (by omega)
            refine ⟨cs', f', a, ?_, e⟩
            show ((sh f (d :: ds) (2 * s)) ++ _).drop j = _
            rw [hj3, List.drop_left]
            simpa using b
      · by_cases c0 : c = 0
        · refine ⟨[], f + tot (c :: d :: ds) s, .inl rfl, ?_, rfl⟩
          show ((sh f (d :: ds) (2 * s)) ++ _).drop j = _
          rw [List.drop_of_length_le (by rw [c0, List.length_append]; simp; omega)]
          rfl
        · obtain ⟨cs', f', a, b, e⟩ := blk (j - (sh f (d :: ds) (2 * s)).length) (by omega) (.inr r) (by omega)
          refine ⟨cs', f', a, ?_, e⟩
          show ((sh f (d :: ds) (2 * s)) ++ _).drop j = _
          rw [List.drop_append, List.drop_of_length_le (show (sh f (d :: ds) (2 * s)).length ≤ j by omega), List.nil_append]
          exact b

/-! ### within, in order -/
theorem sh_mem : ∀ (cs : List Nat) (s f : Nat) (p : Nat × Nat), p ∈ sh f cs s → f ≤ p.1 ∧ p.1 + p.2 ≤ f + tot cs s ∧ s ≤ p.2
  | [], _, _, _, h => by cases h
  | c :: cs, s, f, p, h => by
    rcases List.mem_append.mp h with h | h
    · obtain ⟨a, b, e⟩ := sh_mem cs (2 * s) f p h
      refine ⟨a, ?_, by omega⟩
      show p.1 + p.2 ≤ f + (tot cs (2 * s) + s * c)
      omega
    · obtain ⟨j, hj, rfl⟩ := List.mem_map.mp h
      have hj2 := List.mem_range.mp hj
      have q : s * (j + 1) ≤ s * c := Nat.mul_le_mul_left s hj2
      rw [Nat.mul_succ] at q
      refine ⟨?_, ?_, Nat.le_refl _⟩
      · show f ≤ f + tot cs (2 * s) + s * j
        omega
      · show f + tot cs (2 * s) + s * j + s ≤ f + (tot cs (2 * s) + s * c)
        omega
theorem sh_pair : ∀ (cs : List Nat) (s f : Nat), (sh f cs s).Pairwise fun a b => a.1 + a.2 ≤ b.1
  | [], _, _ => .nil
  | c :: cs, s, f => by
    refine List.pairwise_append.mpr ⟨sh_pair cs (2 * s) f, ?_, fun a ha b hb => ?_⟩
    · rw [List.pairwise_map]
      refine List.Pairwise.imp ?_ (List.pairwise_lt_range (n := c))
      intro i j h
      have q : s * (i + 1) ≤ s * j := Nat.mul_le_mul_left s h
      rw [Nat.mul_succ] at q
      show f + tot cs (2 * s) + s * i + s ≤ f + tot cs (2 * s) + s * j
      omega
    · have h1 := (sh_mem cs (2 * s) f a ha).2.1
      obtain ⟨j, _, rfl⟩ := List.mem_map.mp hb
      show a.1 + a.2 ≤ f + tot cs (2 * s) + s * j
      omega
/-- what does not lie below is what stands behind some spans -/
theorem filter_drop (b : Nat) : ∀ L : List (Nat × Nat), (L.Pairwise fun a b => a.1 + a.2 ≤ b.1) → ∃ j, L.filter (fun p => decide (b < p.1 + p.2)) = L.drop j
  | [], _ => ⟨0, rfl⟩
  | p :: L, h => by
    obtain ⟨h1, h2⟩ := List.pairwise_cons.mp h
    by_cases hp : b < p.1 + p.2
    · refine ⟨0, ?_⟩
      rw [List.drop_zero, List.filter_eq_self]
      intro q hq
      rcases List.mem_cons.mp hq with e | hq
      · rw [e]; exact decide_eq_true hp
      · have := h1 q hq
        exact decide_eq_true (by omega)
    · obtain ⟨j, hj⟩ := filter_drop b L h2
      refine ⟨j + 1, ?_⟩
      rw [List.filter_cons, if_neg (by simpa using hp), hj]
      rfl
/-- the first row of a shape -/
theorem sh_head {k : Nat} : ∀ {cs : List Nat} (_ : Val k cs) (_ : 2 ≤ k) (s f : Nat), ∃ m r, sh f cs s = (f, m) :: r
  | _, .one (c := c) h1 h2, _, s, f => by
    obtain ⟨d, rfl⟩ : ∃ d, c = d + 1 := ⟨c - 1, by omega⟩
    refine ⟨s, (List.range d).map fun j => (f + s * (j + 1), s), ?_⟩
    show [] ++ (List.range (d + 1)).map _ = _
    rw [List.nil_append, List.range_succ_eq_map, List.map_cons, List.map_map]
    rfl
  | _, .more (c := c) (d := d) (cs := cs) h r, hk, s, f => by
    obtain ⟨m, q, e⟩ := sh_head r hk (2 * s) f
    refine ⟨m, q ++ (List.range c).map fun j => (f + tot (d :: cs) (2 * s) + s * j, s), ?_⟩
    show sh f (d :: cs) (2 * s) ++ _ = _
    rw [e]
    rfl
def firstOf (L : List (Nat × Nat)) (l : Nat) : Nat := match L with
  | [] => l
  | p :: _ => p.1
theorem firstOf_sh {k f l : Nat} (hk : 2 ≤ k) (h : f ≤ l) : firstOf (shp k f l) l = f := by
  unfold shp
  by_cases e : l - f = 0
  · rw [e, counts_zero]
    show l = f
    omega
  · obtain ⟨m, r, q⟩ := sh_head (counts_val hk (l - f) (by omega)) hk 1 f
    rw [q]
    rfl
def gone (b : Nat) (L : List (Nat × Nat)) : List (Nat × Nat) := L.filter fun p => decide (b < p.1 + p.2)
/-- letting go leaves the shape of the row that is then the first -/
theorem gone_shp {k f l b : Nat} (hk : 2 ≤ k) (h : f ≤ l) : firstOf (gone b (shp k f l)) l ≤ l ∧ gone b (shp k f l) = shp k (firstOf (gone b (shp k f l)) l) l := by
  by_cases e : l - f = 0
  · have e2 : shp k f l = [] := by
      unfold shp
      rw [e, counts_zero]
      rfl
    rw [e2]
    refine ⟨Nat.le_refl _, ?_⟩
    show [] = shp k l l
    unfold shp
    rw [Nat.sub_self, counts_zero]
    rfl
  · have v := counts_val hk (l - f) (by omega)
    have t := counts_tot hk (l - f)
    obtain ⟨j, hj⟩ := filter_drop b (shp k f l) (sh_pair _ _ _)
    obtain ⟨cs', f', a, q, e2⟩ := suffix _ 1 f j v
    have g : gone b (shp k f l) = sh f' cs' 1 := hj.trans q
    rw [g]
    rw [t] at e2
    rcases a with a | a
    · subst a
      have e3 : f' = l := by
        have : f' + 0 = f + (l - f) := e2
        omega
      refine ⟨Nat.le_refl _, ?_⟩
      show [] = shp k l l
      unfold shp
      rw [Nat.sub_self, counts_zero]
      rfl
    · obtain ⟨m, r, q2⟩ := sh_head a hk 1 f'
      have e3 : firstOf (sh f' cs' 1) l = f' := by rw [q2]; rfl
      have e4 : l - f' = tot cs' 1 := by omega
      have p := tot_pos a hk
      rw [e3]
      refine ⟨by omega, ?_⟩
      unfold shp
      rw [e4, uniq hk a]
/-- how many of each size -/
theorem sizes_sh : ∀ (cs : List Nat) (s f : Nat), (sh f cs s).map (·.2) = (sh 0 cs s).map (·.2)
  | [], _, _ => rfl
  | c :: cs, s, f => by
    show (sh f cs (2 * s) ++ _).map _ = (sh 0 cs (2 * s) ++ _).map _
    rw [List.map_append, List.map_append, sizes_sh cs (2 * s) f, List.map_map, List.map_map]
    rfl
theorem size_in : ∀ (cs : List Nat) (s f : Nat) (p : Nat × Nat), p ∈ sh f cs s → ∃ i, i < cs.length ∧ p.2 = s * 2 ^ i
  | [], _, _, _, h => by cases h
  | c :: cs, s, f, p, h => by
    rcases List.mem_append.mp h with h | h
    · obtain ⟨i, hi, e⟩ := size_in cs (2 * s) f p h
      exact ⟨i + 1, by simpa using hi, by rw [e, Nat.pow_succ, Nat.mul_comm 2 s, Nat.mul_assoc, Nat.mul_comm 2]⟩
    · obtain ⟨j, _, rfl⟩ := List.mem_map.mp h
      exact ⟨0, by simp, by simp⟩
theorem count_sh : ∀ (cs : List Nat) (s f i : Nat), 0 < s → i < cs.length → ((sh f cs s).filter fun p => decide (p.2 = s * 2 ^ i)).length = cs.getD i 0
  | [], _, _, _, _, h => by simp at h
  | c :: cs, s, f, 0, hs, _ => by
    show ((sh f cs (2 * s) ++ (List.range c).map _).filter _).length = c
    rw [List.filter_append, List.length_append]
    have e1 : (sh f cs (2 * s)).filter (fun p => decide (p.2 = s * 2 ^ 0)) = [] := by
      rw [List.filter_eq_nil_iff]
      intro p hp
      have := (sh_mem cs (2 * s) f p hp).2.2
      simp
      omega
    have e2 : ((List.range c).map fun j => (f + tot cs (2 * s) + s * j, s)).filter (fun p => decide (p.2 = s * 2 ^ 0)) = (List.range c).map fun j => (f + tot cs (2 * s) + s * j, s) := by
      rw [List.filter_eq_self]
      intro p hp
      obtain ⟨j, _, rfl⟩ := List.mem_map.mp hp
      simp
    rw [e1, e2, List.length_map, List.length_range]
    simp
  | c :: cs, s, f, i + 1, hs, h => by
    show ((sh f cs (2 * s) ++ (List.range c).map _).filter _).length = cs.getD i 0
    rw [List.filter_append, List.length_append]
    have e2 : ((List.range c).map fun j => (f + tot cs (2 * s) + s * j, s)).filter (fun p => decide (p.2 = s * 2 ^ (i + 1))) = [] := by
      rw [List.filter_eq_nil_iff]
      intro p hp
      obtain ⟨j, _, rfl⟩ := List.mem_map.mp hp
      have : 1 < 2 ^ (i + 1) := Nat.one_lt_two_pow (by omega)
      have q : s * 1 < s * 2 ^ (i + 1) := Nat.mul_lt_mul_of_pos_left this hs
      simp
      omega
    have e3 : s * 2 ^ (i + 1) = 2 * s * 2 ^ i := by rw [Nat.pow_succ, Nat.mul_comm 2 s, Nat.mul_assoc, Nat.mul_comm 2]
    rw [e2, e3, count_sh cs (2 * s) f i (by omega) (by simpa using h)]
    rfl
theorem val_pos {k : Nat} {cs : List Nat} (h : Val k cs) (hk : 2 ≤ k) : ∀ i, i < cs.length → 1 ≤ cs.getD i 0 := by
  induction h with
  | one h1 h2 =>
    intro i hi
    have : i = 0 := by simpa using hi
    subst this
    exact h1
  | more h r ih =>
    intro i hi
    cases i with
    | zero => show 1 ≤ _; simp; omega
    | succ i => exact ih i (by simpa using hi)
theorem val_le {k : Nat} {cs : List Nat} (h : Val k cs) : ∀ i, cs.getD i 0 ≤ k := by
  induction h with
  | one h1 h2 =>
    intro i
    cases i with
    | zero => exact h2
    | succ i => simp
  | more h r ih =>
    intro i
    cases i with
    | zero => show _ ≤ _; simp; omega
    | succ i => exact ih i
theorem counts_le {k : Nat} (hk : 2 ≤ k) (m i : Nat) : (counts k m).getD i 0 ≤ k := by
  by_cases h : 0 < m
  · exact val_le (counts_val hk m h) i
  · have : m = 0 := by omega
    rw [this, counts_zero]
    simp
theorem tot_drop : ∀ (cs : List Nat) (i : Nat), tot (cs.drop i) (2 ^ i) ≤ tot cs 1
  | cs, 0 => Nat.le_refl _
  | [], i + 1 => by simp [tot]
  | c :: cs, i + 1 => by
    have h := tot_drop cs i
    rw [tot_cons]
    show tot (cs.drop i) (2 ^ (i + 1)) ≤ _
    rw [tot_scale] at h ⊢
    rw [Nat.pow_succ, Nat.mul_comm (2 ^ i) 2, Nat.mul_assoc]
    omega
theorem counts_len (k : Nat) (hk : 2 ≤ k) : ∀ m, (counts k m).length ≤ m := by
  intro m
  induction m using Nat.strongRecOn with
  | ind m ih =>
    by_cases h : k < m
    · rw [counts_big h hk, List.length_cons]
      have := ih ((m - (k - (m - k) % 2)) / 2) (by omega)
      omega
    · rw [counts_small h]
      by_cases h0 : 0 < m
      · rw [if_pos h0]; exact h0
      · rw [if_neg h0]; exact Nat.zero_le _
theorem sh_len : ∀ (cs : List Nat) (s f : Nat), 0 < s → (sh f cs s).length ≤ tot cs s
  | [], _, _, _ => Nat.le_refl _
  | c :: cs, s, f, hs => by
    have h := sh_len cs (2 * s) f (by omega)
    show (sh f cs (2 * s) ++ (List.range c).map _).length ≤ tot cs (2 * s) + s * c
    rw [List.length_append, List.length_map, List.length_range]
    have : 1 * c ≤ s * c := Nat.mul_le_mul_right c hs
    omega
theorem shp_len {k f l : Nat} (hk : 2 ≤ k) : (shp k f l).length ≤ l - f := by
  have h := sh_len (counts k (l - f)) 1 f (by omega)
  rw [counts_tot hk] at h
  exact h
theorem shp_mem {k f l : Nat} (hk : 2 ≤ k) (h : f ≤ l) {p : Nat × Nat} (hp : p ∈ shp k f l) : f ≤ p.1 ∧ p.1 + p.2 ≤ l ∧ 1 ≤ p.2 := by
  obtain ⟨a, b, c⟩ := sh_mem _ _ _ _ hp
  rw [counts_tot hk] at b
  exact ⟨a, by omega, c⟩
end Sh
set_option Elab.async false
set_option linter.all false
set_option maxRecDepth 100000
set_option maxHeartbeats 4000000
namespace Pu
open PySem PySem.Spec PyProof.Rows L2 GxR Evl
/-- a comprehension: acc by the turn and the heap -/
theorem lc_gen {J : It} {n : Nat} {G : Hp → Prop} {Y : Nat → Hp → V → Hp → Prop} (w : Walk J n G Y) {g : TG} {tt : TT} {te : TE} {vs : List Nat} {σ : L2.St} {H1 : Hp} {D : Addr} {Qd : Hp → Prop} (R : Nat → Hp → List V → Prop) (hn : n ≤ 40000) (hD : H1 D = none)
    (hU : ∀ i H xs ys acc, H D = some (.lst xs) → R i H acc → R i (upd H D (.lst ys)) acc) (h0 : R 0 (upd H1 D (.lst [])) []) (hG : ∀ H, Ex H1 H → G H)
    (turn : ∀ i x H H' acc, i < n → Ex H1 H → Y i H x H' → R i H acc → ∀ (Qy : V → Hp → Prop) (Qn : Hp → Prop), (∀ y H4, Ex H H4 → R (i + 1) H4 (acc ++ [y]) → Qy y H4) → (∀ H3, Ex H H3 → R (i + 1) H3 acc → Qn H3) →
      g x (wipe σ vs) H' fun σ2 H2 => wipe σ2 vs = wipe σ vs ∧ tt σ2 H2 fun b H3 => if b = true then te σ2 H3 Qy else Qn H3)
    (hd : ∀ H acc, Ex H1 H → H D = some (.lst acc) → R n H acc → Qd H) :
    ∃ W : Nat → Nat → Hp → Prop, (∃ m, W 0 m (upd H1 D (.lst []))) ∧ ∀ i m H, W i m H →
      (J.stop i H ∧ Qd H) ∨ (J.go i H ∧ ∃ Nx : Hp → Prop, (∀ H', Nx H' → ∃ m', m' < m ∧ W (i + 1) m' H') ∧ ∀ x H', J.yld i H x H' → g x (wipe σ vs) H' fun σ2 H2 => wipe σ2 vs = wipe σ vs ∧ tt σ2 H2 fun b H3 =>
        if b = true then te σ2 H3 fun y H4 => ∃ acc, H4 D = some (.lst acc) ∧ acc.length < sizeLine ∧ Nx (upd H4 D (.lst (acc ++ [y]))) else Nx H3) := by
  refine lc_it w (fun i H => Ex H1 H ∧ ∃ acc, H D = some (.lst acc) ∧ acc.length ≤ i ∧ R i H acc) ⟨Ex.new hD, [], upd_same, Nat.le_refl _, h0⟩ (fun i H _ p => hG H p.1) (fun i x H H' hi p y => ?_) fun H p => ?_
  · obtain ⟨ex, acc, hH, hl, hR⟩ := p
    refine turn i x H H' acc hi ex y hR _ _ (fun v H4 e4 r4 => ?_) fun H3 e3 r3 => ⟨ex.trans e3, acc, e3 D _ hH, Nat.le_succ_of_le hl, r3⟩
    have hz : acc.length < sizeLine := Nat.lt_of_le_of_lt (show acc.length ≤ 40000 by omega) (by decide)
    refine ⟨acc, e4 D _ hH, hz, Ex.mut (ex.trans e4) hD, acc ++ [v], upd_same, ?_, hU _ _ _ _ _ (e4 D _ hH) r4⟩
    rw [List.length_append, List.length_singleton]
    omega
  · obtain ⟨ex, acc, hH, _, hR⟩ := p
    exact hd H acc ex hH hR
theorem yes_then {te : TE} {σ : L2.St} {H : Hp} {Qy : VK} {Qn : Hp → Prop} (h : te σ H Qy) : tYes σ H fun b H3 => if b = true then te σ H3 Qy else Qn H3 := by
  show (if true = true then te σ H Qy else Qn H)
  rw [if_pos rfl]
  exact h
/-- pairs of numbers, each a tuple -/
def PrT (H : Hp) (L : List (Nat × Nat)) (xs : List V) : Prop := Paired (fun (p : Nat × Nat) (v : V) => ∃ b, v = .ref b ∧ H b = some (.tup [.int (p.1 : Nat), .int (p.2 : Nat)])) L xs
theorem PrT.ex {H H' : Hp} {L : List (Nat × Nat)} {xs : List V} (h : PrT H L xs) (e : Ex H H') : PrT H' L xs := Paired.mapP h fun p v ⟨b, h1, h2⟩ => ⟨b, h1, e _ _ h2⟩
theorem PrT.upd {H : Hp} {L : List (Nat × Nat)} {xs ys : List V} {D : Addr} {o : HO} (h : PrT H L xs) (hD : H D = some (.lst ys)) : PrT (upd H D o) L xs := Paired.mapP h fun p v ⟨b, h1, h2⟩ =>
  ⟨b, h1, by rw [upd_ne (ne_of h2 hD (by intro z; cases z))]; exact h2⟩
theorem Paired.app {α β : Type} {F : α → β → Prop} : ∀ {l : List α} {m : List β} {l' : List α} {m' : List β}, Paired F l m → Paired F l' m' → Paired F (l ++ l') (m ++ m')
  | _, _, _, _, .nil, s => s
  | _, _, _, _, .cons r t, s => .cons r (Paired.app t s)
theorem PrT.snoc {H : Hp} {L : List (Nat × Nat)} {xs : List V} {p : Nat × Nat} {b : Addr} (h : PrT H L xs) (e : H b = some (.tup [.int (p.1 : Nat), .int (p.2 : Nat)])) : PrT H (L ++ [p]) (xs ++ [.ref b]) := Paired.app h (.cons ⟨b, rfl, e⟩ .nil)
theorem Paired.at {α β : Type} {F : α → β → Prop} : ∀ {l : List α} {m : List β} {i : Nat} {y : β}, Paired F l m → m[i]? = some y → ∃ x, l[i]? = some x ∧ F x y
  | _, _, _, _, .nil, e => by simp at e
  | _, _, 0, _, .cons r _, e => by simp at e; subst e; exact ⟨_, rfl, r⟩
  | _, _, i + 1, y, .cons _ t, e => by
    obtain ⟨x, h1, h2⟩ := Paired.at (i := i) (y := y) t (by simpa using e)
    exact ⟨x, by simpa using h1, h2⟩
theorem PrT.len {H : Hp} {L : List (Nat × Nat)} {xs : List V} (h : PrT H L xs) : L.length = xs.length := Paired.length h
/-- the call of a def that hands back a new tuple -/
theorem eu_call {pre : List V → Hp → List V → Prop} {K : PySem.W.Frag} {σ : L2.St} {H : Hp} {ta : TA} {vs xs : List V} {E : XK} (h : EvA ta σ H vs) (hp : ∀ H1, Ex H H1 → pre (vs ++ []) H1 xs) :
    EvU (tCall (fun vs H Q _ => ∃ xs, pre vs H xs ∧ ∀ p H', H p = none → Ex H H' → H' p = some (.tup xs) → Q (.ref p) H') [] E ta) σ H xs := fun H1 e Q q =>
  h H1 e _ fun H2 e2 => ⟨xs, hp H2 (e.trans e2), fun p H3 hn e3 h3 => q p H3 (fresh_back e2 hn) (e2.trans e3) h3⟩
end Pu
namespace Pu
open PySem PySem.Spec PyProof.Rows L2 GxR Evl
/-- a tuple or a list -/
def SqE (K : PySem.W.Frag) (H : Hp) (a : Addr) (xs : List V) : Prop := SqT K H a xs ∨ SqL K H a xs
theorem SqE.ex {K : PySem.W.Frag} {H H' : Hp} {a : Addr} {xs : List V} (q : SqE K H a xs) (e : Ex H H') : SqE K H' a xs := q.elim (fun q => .inl (ex_t e q)) fun q => .inr (ex_l e q)
/-- pairs of numbers, each a tuple or a list -/
def PrIn (K : PySem.W.Frag) (H : Hp) (L : List (Nat × Nat)) (xs : List V) : Prop := Paired (fun (p : Nat × Nat) (v : V) => ∃ b, v = .ref b ∧ SqE K H b [.int (p.1 : Nat), .int (p.2 : Nat)]) L xs
theorem PrIn.ex {K : PySem.W.Frag} {H H' : Hp} {L : List (Nat × Nat)} {xs : List V} (h : PrIn K H L xs) (e : Ex H H') : PrIn K H' L xs := Paired.mapP h fun p v ⟨b, h1, h2⟩ => ⟨b, h1, h2.ex e⟩
theorem PrT.in {K : PySem.W.Frag} {H : Hp} {L : List (Nat × Nat)} {xs : List V} (h : PrT H L xs) : PrIn K H L xs := Paired.mapP h fun p v ⟨b, h1, h2⟩ => ⟨b, h1, .inl (SqT.of h2)⟩
def ShIn (K : PySem.W.Frag) (H : Hp) (L : List (Nat × Nat)) (v : V) : Prop := ∃ a xs, v = .ref a ∧ SqE K H a xs ∧ PrIn K H L xs
theorem ShIn.ex {K : PySem.W.Frag} {H H' : Hp} {L : List (Nat × Nat)} {v : V} (h : ShIn K H L v) (e : Ex H H') : ShIn K H' L v := by
  obtain ⟨a, xs, h1, h2, h3⟩ := h
  exact ⟨a, xs, h1, h2.ex e, h3.ex e⟩
theorem ShIn.of {K : PySem.W.Frag} {H : Hp} {L : List (Nat × Nat)} {p : Addr} {xs : List V} (h : H p = some (.tup xs)) (q : PrT H L xs) : ShIn K H L (.ref p) := ⟨p, xs, rfl, .inl (SqT.of h), q.in⟩
theorem test_then {tt : TT} {te : TE} {σ : L2.St} {H : Hp} {b : Bool} {Qy : VK} {Qn : Hp → Prop} (ht : EvT tt σ H b) (h1 : b = true → ∀ H1, Ex H H1 → te σ H1 Qy) (h2 : b = false → ∀ H1, Ex H H1 → Qn H1) :
    tt σ H fun b H3 => if b = true then te σ H3 Qy else Qn H3 := ht H (Ex.refl H) _ fun H1 e => by
  cases b with
  | true =>
    rw [if_pos rfl]
    exact h1 rfl H1 e
  | false =>
    rw [if_neg Bool.false_ne_true]
    exact h2 rfl H1 e
end Pu
namespace Pu
open PySem PySem.Spec PyProof.Rows L2 GxR Evl
/-- all kept but the table at T, which may have grown -/
def ExT (T : Addr) (H H' : Hp) : Prop := TabG H' T ∧ ∀ b o, b ≠ T → H b = some o → H' b = some o
theorem ExT.of_tab {T : Addr} {H H' : Hp} (t : Tabbed T H H') : ExT T H H' := ⟨t.1, fun b o hb e => by rw [t.2 b hb]; exact e⟩
theorem TabG.ex {T : Addr} {H H' : Hp} (t : TabG H T) (e : Ex H H') : TabG H' T := by
  obtain ⟨ps, h, r⟩ := t
  exact ⟨ps, e _ _ h, r⟩
theorem ExT.ex {T : Addr} {H H1 H2 : Hp} (a : ExT T H H1) (e : Ex H1 H2) : ExT T H H2 := ⟨TabG.ex a.1 e, fun b o hb h => e _ _ (a.2 b o hb h)⟩
theorem ExT.ex' {T : Addr} {H H1 H2 : Hp} (e : Ex H H1) (a : ExT T H1 H2) : ExT T H H2 := ⟨a.1, fun b o hb h => a.2 b o hb (e _ _ h)⟩
theorem ExT.refl {T : Addr} {H : Hp} (t : TabG H T) : ExT T H H := ⟨t, fun _ _ _ h => h⟩
theorem ExT.trans {T : Addr} {H H1 H2 : Hp} (a : ExT T H H1) (b : ExT T H1 H2) : ExT T H H2 := ⟨b.1, fun c o hc h => b.2 c o hc (a.2 c o hc h)⟩
theorem ExT.fresh {T : Addr} {H H' : Hp} {p : Addr} (t : TabG H T) (a : ExT T H H') (h : H' p = none) : H p = none := by
  cases e : H p with
  | none => rfl
  | some o =>
    by_cases z : p = T
    · obtain ⟨ps, q, _⟩ := a.1
      rw [z, q] at h
      cases h
    · rw [a.2 p o z e] at h
      cases h
theorem TabG.ne {T a : Addr} {H : Hp} {o : HO} (t : TabG H T) (h : H a = some o) (n : ∀ ps, o ≠ .tbl ps) : a ≠ T := fun z => by
  obtain ⟨ps, q, _⟩ := t
  rw [z, q] at h
  exact n ps (Option.some.inj h).symm
theorem rd_exT {T a : Addr} {H H' : Hp} {u : HO} (t : TabG H T) (e : ExT T H H') (n : ∀ ps, u ≠ .tbl ps) (h : Rd H a u) : Rd H' a u := by
  rcases h with h | ⟨o, h⟩
  · exact .inl (e.2 _ _ (TabG.ne t h n) h)
  · exact .inr ⟨o, e.2 _ _ (TabG.ne t h fun ps z => by cases z) h⟩
theorem SqT.exT {K : PySem.W.Frag} {T a : Addr} {H H' : Hp} {xs : List V} (t : TabG H T) (e : ExT T H H') (q : SqT K H a xs) : SqT K H' a xs := q.imp (rd_exT t e fun ps z => by cases z) id
theorem SqL.exT {K : PySem.W.Frag} {T a : Addr} {H H' : Hp} {xs : List V} (t : TabG H T) (e : ExT T H H') (q : SqL K H a xs) : SqL K H' a xs := q.imp (rd_exT t e fun ps z => by cases z) id
theorem SqE.exT {K : PySem.W.Frag} {T a : Addr} {H H' : Hp} {xs : List V} (t : TabG H T) (e : ExT T H H') (q : SqE K H a xs) : SqE K H' a xs := q.imp (SqT.exT t e) (SqL.exT t e)
theorem PrIn.exT {K : PySem.W.Frag} {T : Addr} {H H' : Hp} {L : List (Nat × Nat)} {xs : List V} (t : TabG H T) (e : ExT T H H') (h : PrIn K H L xs) : PrIn K H' L xs := Paired.mapP h fun p v ⟨b, h1, h2⟩ => ⟨b, h1, h2.exT t e⟩
theorem PrT.exT {T : Addr} {H H' : Hp} {L : List (Nat × Nat)} {xs : List V} (t : TabG H T) (e : ExT T H H') (h : PrT H L xs) : PrT H' L xs := Paired.mapP h fun p v ⟨b, h1, h2⟩ => ⟨b, h1, e.2 _ _ (TabG.ne t h2 fun ps z => by cases z) h2⟩
theorem ShIn.exT {K : PySem.W.Frag} {T : Addr} {H H' : Hp} {L : List (Nat × Nat)} {v : V} (t : TabG H T) (e : ExT T H H') (h : ShIn K H L v) : ShIn K H' L v := by
  obtain ⟨a, xs, h1, h2, h3⟩ := h
  exact ⟨a, xs, h1, h2.exT t e, h3.exT t e⟩
/-- pairs of numbers, each a tuple that is read -/
def PrS (K : PySem.W.Frag) (H : Hp) (L : List (Nat × Nat)) (xs : List V) : Prop := Paired (fun (p : Nat × Nat) (v : V) => ∃ b, v = .ref b ∧ SqT K H b [.int (p.1 : Nat), .int (p.2 : Nat)]) L xs
theorem PrS.ex {K : PySem.W.Frag} {H H' : Hp} {L : List (Nat × Nat)} {xs : List V} (h : PrS K H L xs) (e : Ex H H') : PrS K H' L xs := Paired.mapP h fun p v ⟨b, h1, h2⟩ => ⟨b, h1, ex_t e h2⟩
theorem SqT.upd {K : PySem.W.Frag} {H : Hp} {b D : Addr} {xs ys : List V} {o : HO} (h : SqT K H b xs) (hD : H D = some (.lst ys)) : SqT K (upd H D o) b xs := by
  rcases h with (h | ⟨u, h⟩) | h
  · exact .inl (.inl (by rw [upd_ne (ne_of h hD (by intro z; cases z))]; exact h))
  · exact .inl (.inr ⟨u, by rw [upd_ne (ne_of h hD (by intro z; cases z))]; exact h⟩)
  · exact .inr h
theorem PrS.upd {K : PySem.W.Frag} {H : Hp} {L : List (Nat × Nat)} {xs ys : List V} {D : Addr} {o : HO} (h : PrS K H L xs) (hD : H D = some (.lst ys)) : PrS K (upd H D o) L xs := Paired.mapP h fun p v ⟨b, h1, h2⟩ => ⟨b, h1, SqT.upd h2 hD⟩
theorem PrS.in {K : PySem.W.Frag} {H : Hp} {L : List (Nat × Nat)} {xs : List V} (h : PrS K H L xs) : PrIn K H L xs := Paired.mapP h fun p v ⟨b, h1, h2⟩ => ⟨b, h1, .inl h2⟩
theorem PrT.s {K : PySem.W.Frag} {H : Hp} {L : List (Nat × Nat)} {xs : List V} (h : PrT H L xs) : PrS K H L xs := Paired.mapP h fun p v ⟨b, h1, h2⟩ => ⟨b, h1, SqT.of h2⟩
/-- pairs as data -/
def dPair (p : Nat × Nat) : PyData := .tuple [.int (p.1 : Nat), .int (p.2 : Nat)]
def dShape (L : List (Nat × Nat)) : PyData := .tuple (L.map dPair)
theorem dpPairs {K : PySem.W.Frag} {H : Hp} : ∀ {L : List (Nat × Nat)} {xs : List V}, PrS K H L xs → DpAll K H xs (L.map dPair)
  | _, _, .nil => .nil
  | _, _, .cons ⟨b, e, h⟩ t => by
    subst e
    exact .cons (.tup h (.cons (.int _) (.cons (.int _) .nil))) (dpPairs t)
theorem dpShape {K : PySem.W.Frag} {H : Hp} {a : Addr} {L : List (Nat × Nat)} {xs : List V} (h : SqT K H a xs) (q : PrS K H L xs) : Dp K H (.ref a) (dShape L) := .tup h (dpPairs q)
theorem pairs_lay : ∀ L : List (Nat × Nat), PyData.canLayAll0 (L.map dPair) = true
  | [] => rfl
  | p :: L => by
    show ((PyData.canLay0 (.int (p.1 : Nat)) && (PyData.canLay0 (.int (p.2 : Nat)) && PyData.canLayAll0 [])) && PyData.canLayAll0 (L.map dPair)) = true
    rw [pairs_lay L]
    rfl
theorem pairs_depth : ∀ L : List (Nat × Nat), PyData.depthAll (L.map dPair) ≤ 1
  | [] => Nat.zero_le _
  | p :: L => by
    show max (PyData.depth (dPair p)) (PyData.depthAll (L.map dPair)) ≤ 1
    exact Nat.max_le.mpr ⟨Nat.le_refl 1, pairs_depth L⟩
theorem shape_shaped (L : List (Nat × Nat)) : SeqAt.shaped (dShape L) = true := by
  have h1 : PyData.canLay0 (dShape L) = true := pairs_lay L
  have h2 : PyData.depth (dShape L) ≤ 64 := by
    show PyData.depthAll (L.map dPair) + 1 ≤ 64
    have := pairs_depth L
    omega
  unfold SeqAt.shaped
  rw [h1, decide_eq_true h2]
  rfl
theorem pairs_eqv : ∀ L : List (Nat × Nat), PyData.eqvAll (L.map dPair) (L.map dPair) = true
  | [] => rfl
  | p :: L => by
    show (PyData.eqv (dPair p) (dPair p) && PyData.eqvAll (L.map dPair) (L.map dPair)) = true
    rw [pairs_eqv L]
    simp [dPair, PyData.eqv, PyData.eqvAll]
theorem shape_eqv (L : List (Nat × Nat)) : PyData.eqv (dShape L) (dShape L) = true := by
  show PyData.eqv (.tuple _) (.tuple _) = true
  rw [PyData.eqv]
  exact pairs_eqv L
/-- tuple(x) -/
def rTupleOf (K : PySem.W.Frag) (xs : List V) (H : Hp) (Q : VK) : Prop := ∃ p ys, xs = [.ref p] ∧ ((SqL K H p ys ∧ ∀ l, H l = none → Q (.ref l) (upd H l (.tup ys))) ∨ (SqT K H p ys ∧ Q (.ref p) H))
/-- a tracked tuple or list at a heap that keeps all but the table -/
theorem seq_at {P : Program} {w : World} {K : PySem.W.Frag} {H1 : Hp} {g : Heap} {T b : Addr} {xs : List V} (t : TabG H1 T) (ok : ∀ c ho, c ≠ T → H1 c = some ho → ObjOk P w H1 g c ho) (kin : K.In g) (q : SqE K H1 b xs) : ∃ (bb : Bool) (its : List Value), Vals xs its ∧ SeqG g bb b its := by
  have rd : ∀ {u : HO}, Rd H1 b u → (∀ ps, u ≠ .tbl ps) → ObjOk P w H1 g b u := fun {u} h n => by
    rcases h with h | ⟨o, h⟩
    · exact ok b _ (TabG.ne t h n) h
    · exact (ok b _ (TabG.ne t h fun ps z => by cases z) h).2
  rcases q with (q | ⟨o, its, n, hk, hc, hs, hz, r⟩) | (q | ⟨o, its, n, hk, hc, hd, hs, hz, r⟩)
  · obtain ⟨z, its, r, p⟩ := rd q fun ps z => by cases z
    exact ⟨true, its, r, by rw [← r.length]; exact z, p⟩
  · exact ⟨true, its.toList, r, by simpa using hz, o, kin b o hk, hc, n, by simpa using hs⟩
  · obtain ⟨z, its, n, r, e⟩ := rd q fun ps z => by cases z
    exact ⟨false, its, r, by rw [← r.length]; exact z, _, n, e, rfl, rfl, rfl⟩
  · exact ⟨false, its.toList, r, by simpa using hz, o, n, kin b o hk, hc, hd, by simpa using hs⟩
theorem GenS.of {env : Env} {sc : Scope} {x : Str} (h1 : sc.kind = .function) (h2 : sc.isCoroutine = false) (h3 : ∀ y ∈ sc.names, y.2 ≠ .cell) (h4 : sc.names.lookup (".0" : Str) = some NameKind.local) (h5 : sc.names.lookup x = some .local) (h6 : ∀ y ∈ sc.names, y.2 ≠ .free) :
    GenS env sc x := ⟨h1, h2, h3, h4, h5, fun y hy e => absurd e (h6 y hy)⟩
theorem PrS.snoc {K : PySem.W.Frag} {H : Hp} {L : List (Nat × Nat)} {xs : List V} {p : Nat × Nat} {b : Addr} (h : PrS K H L xs) (e : SqT K H b [.int (p.1 : Nat), .int (p.2 : Nat)]) : PrS K H (L ++ [p]) (xs ++ [.ref b]) := Paired.app h (.cons ⟨b, rfl, e⟩ .nil)
theorem q_ifOrF {t u : TT} {tu tw tz : TS} {D : Ends} {σ : L2.St} {H : Hp} (h1 : EvT t σ H false) (h2 : ∀ H1, Ex H H1 → u σ H1 fun b H2 => if b = true then tu { D with nx := tz D } σ H2 else tw { D with nx := tz D } σ H2) :
    tSeq (tIfS (tOr t u) tu tw) tz D σ H := h1 H (Ex.refl H) _ fun H1 e => by
  rw [if_neg (by decide)]
  exact h2 H1 e
end Pu
namespace Pu
open PySem PySem.Spec PyProof.Rows L2 GxR Evl
theorem rc_abs {i : Int} {H : Hp} : RC (fun xs H Q => ∃ i, xs = [V.int i] ∧ Q (.int (if i < 0 then -i else i)) H) [.int i] H (.int (if i < 0 then -i else i)) := fun H1 _ Q q => ⟨i, rfl, q H1 (Ex.refl H1)⟩
theorem rc_int {i : Int} {H : Hp} : RC (fun xs H Q => (∃ i, xs = [V.int i] ∧ Q (.int i) H) ∨ ∃ k, xs = [.bl k] ∧ Q (.int (if k then 1 else 0)) H) [.int i] H (.int i) := fun H1 _ Q q => .inl ⟨i, rfl, q H1 (Ex.refl H1)⟩
theorem rc_lenL {K : PySem.W.Frag} {H : Hp} {a : Addr} {xs : List V} (h : SqL K H a xs) : RC (fun ys H Q => ∃ x n, ys = [x] ∧ LenV K x H n ∧ Q (.int n) H) [.ref a] H (.int (xs.length : Int)) := fun H1 e Q q => ⟨_, _, rfl, .inl ⟨xs, ex_l e h, rfl⟩, q H1 (Ex.refl H1)⟩
def BoxAt (H : Hp) (p : Addr) : Prop := ∃ g s : Int, H p = some (.lst [.int g, .int s]) ∧ 0 ≤ g ∧ 0 ≤ s
theorem BoxAt.ex {H H' : Hp} {p : Addr} (h : BoxAt H p) (e : Ex H H') : BoxAt H' p := by
  obtain ⟨g, s, h1, h2⟩ := h
  exact ⟨g, s, e _ _ h1, h2⟩
def ExB (p : Addr) (H H' : Hp) : Prop := BoxAt H' p ∧ ∀ b o, b ≠ p → H b = some o → H' b = some o
def spBox (K : PySem.W.Frag) (ns : List Int) : Sp := fun vs H Q _ => ∃ (a : Addr) (k : Nat), vs = [.ref a, .int k] ∧ SqL K H a (ns.map V.int) ∧ ns.length ≤ 100 ∧ k ≤ 1000 ∧ ∀ p H', H p = none → Ex H H' → BoxAt H' p → Q (.ref p) H'
def spTake : Sp := fun vs H Q _ => ∃ (p : Addr) (m : Nat), vs = [.ref p, .int m] ∧ 1 ≤ m ∧ m ≤ 100000 ∧ BoxAt H p ∧ ∀ (d : Nat) H', d < m → ExB p H H' → Q (.int d) H'
def spPick : Sp := fun vs H Q _ => ∃ (p q : Addr) (ys : List V), vs = [.ref p, .ref q] ∧ BoxAt H p ∧ H q = some (.lst ys) ∧ q ≠ p ∧ 1 ≤ ys.length ∧ ys.length ≤ 1000 ∧ ∀ v H', v ∈ ys → ExB p H H' → Q v H'
theorem ExB.of {p : Addr} {H H2 H4 : Hp} {g s : Int} (e : Ex H H2) (e4 : Ex (upd H2 p (.lst [.int g, .int s])) H4) (hg : 0 ≤ g) (hs : 0 ≤ s) : ExB p H H4 :=
  ⟨⟨g, s, e4 _ _ upd_same, hg, hs⟩, fun b o hb h => e4 _ _ (by rw [upd_ne hb]; exact e _ _ h)⟩
theorem mod_nat (g : Int) {m : Nat} (h : 1 ≤ m) : ∃ d : Nat, g % (m : Int) = d ∧ d < m := by
  have h0 : 0 ≤ g % (m : Int) := Int.emod_nonneg _ (by omega)
  have h1 : g % (m : Int) < m := Int.emod_lt_of_pos _ (by omega)
  exact ⟨(g % (m : Int)).toNat, by omega, by omega⟩
theorem q_ifSet {t t' : TT} {te te' : TE} {tz : TS} {D : Ends} {σ : L2.St} {H : Hp} {b b' : Bool} {i : Nat} {c0 : Int} (Pc : Int → Prop) (h : EvT t σ H b) (h1 : b = true → ∃ c, Pc c ∧ Ev te σ H (.int c)) (h' : b = false → EvT t' σ H b') (h2 : b = false → b' = true → ∃ c, Pc c ∧ Ev te' σ H (.int c)) (h3 : Pc c0 ∧ σ.set i (some (.int c0)) = σ)
    (k : ∀ c H1, Pc c → Ex H H1 → tz D (σ.set i (some (.int c))) H1) : tSeq (tIfS t (tAsg te (gName i)) (tIfS t' (tAsg te' (gName i)) tNext)) tz D σ H := by
  refine s_if (D := { D with nx := tz D }) h (fun z H1 e1 => ?_) (fun z H1 e1 => ?_)
  · obtain ⟨c, hc, v⟩ := h1 z
    exact v H1 e1 _ fun H2 e2 => k c H2 hc (e1.trans e2)
  · refine h' z H1 e1 _ fun H2 e2 => ?_
    refine ite2 (fun y => ?_) fun _ => ?_
    · obtain ⟨c, hc, v⟩ := h2 z y
      exact v H2 (e1.trans e2) _ fun H3 e3 => k c H3 hc ((e1.trans e2).trans e3)
    · have q := k c0 H2 h3.1 (e1.trans e2)
      rw [h3.2] at q
      exact q
theorem lt_log {m : Nat} (h : m ≤ 100000) : (m : Int).natAbs.log2 < 9000 := by
  have z : m < 2 ^ 20 := Nat.lt_of_le_of_lt h (by decide)
  have y := PySem.Flt.log2_lt_of (by decide) (show (m : Int).natAbs < 2 ^ 20 by rw [Int.natAbs_natCast]; exact z)
  omega
theorem ev_int1 {ta : TE} {σ : L2.St} {H : Hp} {i : Int} (h : Ev ta σ H (.int i)) : Ev (tCB (fun xs H Q => (∃ i, xs = [V.int i] ∧ Q (.int i) H) ∨ ∃ k, xs = [.bl k] ∧ Q (.int (if k then 1 else 0)) H) (tCons ta tNil)) σ H (.int i) := ev_cb (Evl.ea_cons h Evl.ea_nil) rc_int
theorem ev_lenL {K : PySem.W.Frag} {ta : TE} {σ : L2.St} {H : Hp} {a : Addr} {xs : List V} (h : Ev ta σ H (.ref a)) (q : SqL K H a xs) : Ev (tCB (fun ys H Q => ∃ x n, ys = [x] ∧ LenV K x H n ∧ Q (.int n) H) (tCons ta tNil)) σ H (.int (xs.length : Int)) := ev_cb (Evl.ea_cons h Evl.ea_nil) (rc_lenL q)
end Pu
namespace Pu
open PySem PySem.Spec PyProof.Rows L2 GxR Evl
/-- list(x) -/
def rListOf (K : PySem.W.Frag) (xs : List V) (H : Hp) (Q : VK) : Prop := ∃ p ys, xs = [.ref p] ∧ (SqL K H p ys ∨ SqT K H p ys) ∧ ∀ l, H l = none → Q (.ref l) (upd H l (.lst ys))
/-- a statement told by what holds ahead of it and behind it -/
def Tr (X : Cx) (st : Stmt) (A B : L2.St → Hp → Prop) : Prop := ∃ t, PS X st t ∧ ∀ D σ H, A σ H → (∀ σ' H', B σ' H' → D.nx σ' H') → t D σ H
def Trs (X : Cx) (l : List Stmt) (A B : L2.St → Hp → Prop) : Prop := ∃ t, PSs X l t ∧ ∀ D σ H, A σ H → (∀ σ' H', B σ' H' → D.nx σ' H') → t D σ H
theorem Trs.cons {X : Cx} {st : Stmt} {l : List Stmt} {A B C : L2.St → Hp → Prop} (h : Tr X st A B) (k : Trs X l B C) : Trs X (st :: l) A C := by
  obtain ⟨t, h1, h2⟩ := h
  obtain ⟨u, k1, k2⟩ := k
  exact ⟨_, pss_cons h1 k1, fun D σ H a q => h2 { D with nx := u D } σ H a fun σ' H' b => k2 D σ' H' b q⟩
theorem Trs.one {X : Cx} {st : Stmt} {A B : L2.St → Hp → Prop} (h : Tr X st A B) : Trs X [st] A B := by
  obtain ⟨t, h1, h2⟩ := h
  exact ⟨_, pss_one h1, h2⟩
theorem Trs.pre {X : Cx} {l : List Stmt} {A A' B : L2.St → Hp → Prop} (h : Trs X l A B) (e : ∀ σ H, A' σ H → A σ H) : Trs X l A' B := by
  obtain ⟨t, h1, h2⟩ := h
  exact ⟨t, h1, fun D σ H a q => h2 D σ H (e σ H a) q⟩
/-- slots -/
theorem sl_ne {σ : L2.St} {i j : Nat} {v : Option V} {x : V} (h : σ[j]? = some (some x)) (n : i ≠ j) : (σ.set i v)[j]? = some (some x) := by rw [List.getElem?_set_ne n]; exact h
theorem sl_eq {σ : L2.St} {i : Nat} {v : V} (h : i < σ.length) : (σ.set i (some v))[i]? = some (some v) := List.getElem?_set_self h
/-- the arguments by their names, put in the told order -/
def perm {α : Type} (is : List Nat) (l : List α) : List α := if l.length = is.length then is.filterMap (fun i => l[i]?) else []
theorem filt_rel {zs : List V} {ws : List Value} (h : Vals zs ws) : ∀ is : List Nat, Vals (is.filterMap fun i => zs[i]?) (is.filterMap fun i => ws[i]?)
  | [] => .nil
  | i :: is => by
    rw [List.filterMap_cons, List.filterMap_cons]
    cases e : zs[i]? with
    | none =>
      have e2 : ws[i]? = none := by
        rw [List.getElem?_eq_none_iff] at e ⊢
        rw [← h.length]
        exact e
      rw [e2]
      exact filt_rel h is
    | some z =>
      obtain ⟨u, hu, r⟩ := h.get e
      rw [hu]
      exact .cons r (filt_rel h is)
theorem perm_rel {is : List Nat} {zs : List V} {ws : List Value} (h : Vals zs ws) : Vals (perm is zs) (perm is ws) := by
  unfold perm
  rw [h.length]
  split
  · exact filt_rel h is
  · exact .nil
theorem kwOk {K : PySem.W.Frag} {fd : FuncData} {ps ks : List Str} {is : List Nat} (h : ∀ ws : List Value, ws.length = is.length → bindArgs fd ⟨[], ks.zip ws⟩ = pure (ps.zip (perm is ws))) (hn : 0 < ps.length) : KwOk K fd ps ks (perm is) (perm is) := by
  refine ⟨fun s ws _ hl => ?_, perm_rel⟩
  refine .of_eq (h ws ?_)
  unfold perm at hl
  split at hl
  · assumption
  · rw [List.length_nil] at hl
    omega
/-- the script stays what it is as long as only p and T change -/
def Scr (K : PySem.W.Frag) (T p a : Addr) (ns : List Int) (H : Hp) : Prop := ∀ H', (∀ b o, b ≠ p → b ≠ T → H b = some o → H' b = some o) → SqL K H' a (ns.map V.int)
structure Hs (K : PySem.W.Frag) (T a : Addr) (ns : List Int) (p : Addr) (H : Hp) : Prop where
  tab : TabG H T
  box : BoxAt H p
  scr : Scr K T p a ns H
/-- a step that changes but the box and the table -/
structure Stp (T p : Addr) (H H' : Hp) : Prop where
  tab : TabG H' T
  box : BoxAt H' p
  kp : ∀ b o, b ≠ p → b ≠ T → H b = some o → H' b = some o
variable {K : PySem.W.Frag} {T a p : Addr} {ns : List Int} {H H' H2 : Hp}
theorem BoxAt.ne (h : BoxAt H p) (t : TabG H T) : p ≠ T := by
  obtain ⟨g, s, h1, _⟩ := h
  exact TabG.ne t h1 fun ps z => by cases z
theorem Hs.ex (h : Hs K T a ns p H) (e : Ex H H') : Stp T p H H' := ⟨TabG.ex h.tab e, h.box.ex e, fun b o _ _ q => e b o q⟩
theorem Hs.exT (h : Hs K T a ns p H) (e : ExT T H H') : Stp T p H H' := by
  refine ⟨e.1, ?_, fun b o _ n q => e.2 b o n q⟩
  obtain ⟨g, s, h1, h2⟩ := h.box
  exact ⟨g, s, e.2 _ _ (h.box.ne h.tab) h1, h2⟩
theorem Hs.exB (h : Hs K T a ns p H) (e : ExB p H H') : Stp T p H H' := by
  refine ⟨?_, e.1, fun b o n _ q => e.2 b o n q⟩
  obtain ⟨ps, h1, h2⟩ := h.tab
  exact ⟨ps, e.2 _ _ (fun z => h.box.ne h.tab z.symm) h1, h2⟩
theorem Hs.step (h : Hs K T a ns p H) (s : Stp T p H H') : Hs K T a ns p H' := ⟨s.tab, s.box, fun H'' q => h.scr H'' fun b o n m e => q b o n m (s.kp b o n m e)⟩
theorem Stp.trans (s : Stp T p H H') (u : Stp T p H' H2) : Stp T p H H2 := ⟨u.tab, u.box, fun b o n m e => u.kp b o n m (s.kp b o n m e)⟩
theorem Hs.scrL (h : Hs K T a ns p H) : SqL K H a (ns.map V.int) := h.scr H fun _ _ _ _ e => e
theorem Hs.ofNew (t : TabG H T) (s : SqL K H a (ns.map V.int)) (n : H p = none) (e : Ex H H') (b : BoxAt H' p) : Hs K T a ns p H' := by
  refine ⟨TabG.ex t e, b, fun H'' q => ?_⟩
  refine s.imp (fun s => ?_) id
  rcases s with s | ⟨o, s⟩
  · exact .inl (q _ _ (fun z => by rw [z, n] at s; cases s) (TabG.ne t s fun ps z => by cases z) (e _ _ s))
  · exact .inr ⟨o, q _ _ (fun z => by rw [z, n] at s; cases s) (TabG.ne t s fun ps z => by cases z) (e _ _ s)⟩
theorem Hs.renew {p' : Addr} (h : Hs K T a ns p H) (n : H p' = none) (e : Ex H H') (b : BoxAt H' p') : Hs K T a ns p' H' := Hs.ofNew h.tab h.scrL n e b
theorem Stp.tup (h : Hs K T a ns p H) (s : Stp T p H H') {b : Addr} {xs : List V} (e : H b = some (.tup xs)) : H' b = some (.tup xs) := by
  obtain ⟨g, s', h1, _⟩ := h.box
  exact s.kp _ _ (fun z => by rw [z, h1] at e; cases e) (TabG.ne h.tab e fun ps z => by cases z) e
theorem Stp.prT (h : Hs K T a ns p H) (s : Stp T p H H') {L : List (Nat × Nat)} {xs : List V} (q : PrT H L xs) : PrT H' L xs := Paired.mapP q fun _ _ ⟨b, h1, h2⟩ => ⟨b, h1, s.tup h h2⟩
theorem Stp.lst (h : Hs K T a ns p H) (s : Stp T p H H') {b : Addr} {xs : List V} (n : b ≠ p) (e : H b = some (.lst xs)) : H' b = some (.lst xs) := s.kp _ _ n (TabG.ne h.tab e fun ps z => by cases z) e
theorem Hs.fresh (h : Hs K T a ns p H) (s : Stp T p H H') {b : Addr} (e : H' b = none) : H b = none := by
  cases z : H b with
  | none => rfl
  | some o =>
    obtain ⟨g, s', h1, _⟩ := s.box
    obtain ⟨ps, h2, _⟩ := s.tab
    by_cases q : b = p
    · rw [q, h1] at e; cases e
    · by_cases r : b = T
      · rw [r, h2] at e; cases e
      · rw [s.kp b o q r z] at e; cases e
end Pu
namespace Pu
open PySem PySem.Spec PyProof.Rows L2 GxR Evl
/-- data that is small enough to be shown -/
structure Sm (n m : Nat) (d : PyData) : Prop where
  dp : PyData.depth d ≤ n
  bk : PyData.bulk d ≤ m
  lf : PyData.leavesShort 13 d = true
  sh : PyData.showable d = true
  nd : PyData.hasDict d = false
theorem Sm.none : Sm 0 0 .none := ⟨Nat.le_refl _, Nat.le_refl _, rfl, rfl, rfl⟩
theorem Sm.int {i : Nat} (h : i ≤ 1000000) : Sm 0 0 (.int (i : Int)) := by
  refine ⟨Nat.le_refl _, Nat.le_refl _, ?_, ?_, rfl⟩
  · show decide _ = true
    exact decide_eq_true (PyData.shown_int_le (by rw [Int.natAbs_natCast]; exact Nat.lt_of_le_of_lt h (by decide)))
  · show decide _ = true
    refine decide_eq_true ?_
    rw [Int.natAbs_natCast]
    exact Nat.lt_of_lt_of_le (PySem.Flt.log2_lt_of (by decide) (Nat.lt_of_le_of_lt h (by decide : 1000000 < 2 ^ 20))) (by decide)
theorem Sm.mono {n m n' m' : Nat} {d : PyData} (s : Sm n m d) (h : n ≤ n') (k : m ≤ m') : Sm n' m' d := ⟨Nat.le_trans s.dp h, Nat.le_trans s.bk k, s.lf, s.sh, s.nd⟩
theorem sm_all {n m : Nat} : ∀ {ds : List PyData}, (∀ d ∈ ds, Sm n m d) → PyData.depthAll ds ≤ n ∧ PyData.bulkAll ds ≤ ds.length * (m + 1) ∧ PyData.leavesShortAll 13 ds = true ∧ PyData.showableAll ds = true ∧ PyData.hasDictAll ds = false
  | [], _ => ⟨Nat.zero_le _, Nat.zero_le _, rfl, rfl, rfl⟩
  | d :: ds, h => by
    obtain ⟨h1, h2, h3, h4, h5⟩ := sm_all (ds := ds) fun x hx => h x (List.mem_cons_of_mem _ hx)
    have s := h d (List.mem_cons_self ..)
    refine ⟨?_, ?_, ?_, ?_, ?_⟩
    · show max (PyData.depth d) (PyData.depthAll ds) ≤ n
      exact Nat.max_le.mpr ⟨s.dp, h1⟩
    · show PyData.bulk d + 1 + PyData.bulkAll ds ≤ (ds.length + 1) * (m + 1)
      have := s.bk
      rw [Nat.add_mul]
      omega
    · show (PyData.leavesShort 13 d && PyData.leavesShortAll 13 ds) = true
      rw [s.lf, h3]
      rfl
    · show (PyData.showable d && PyData.showableAll ds) = true
      rw [s.sh, h4]
      rfl
    · show (PyData.hasDict d || PyData.hasDictAll ds) = false
      rw [s.nd, h5]
      rfl
theorem Sm.tup {n m c : Nat} {ds : List PyData} (h : ∀ d ∈ ds, Sm n m d) (hc : ds.length ≤ c) : Sm (n + 1) (c * (m + 1)) (.tuple ds) := by
  obtain ⟨h1, h2, h3, h4, h5⟩ := sm_all h
  exact ⟨Nat.succ_le_succ h1, Nat.le_trans h2 (Nat.mul_le_mul_right _ hc), h3, h4, h5⟩
theorem Sm.lst {n m c : Nat} {ds : List PyData} (h : ∀ d ∈ ds, Sm n m d) (hc : ds.length ≤ c) : Sm (n + 1) (c * (m + 1)) (.list ds) := by
  obtain ⟨h1, h2, h3, h4, h5⟩ := sm_all h
  exact ⟨Nat.succ_le_succ h1, Nat.le_trans h2 (Nat.mul_le_mul_right _ hc), h3, h4, h5⟩
theorem Sm.pair {p : Nat × Nat} (h : p.1 + p.2 ≤ 1000000) : Sm 1 2 (dPair p) := by
  refine Sm.tup (c := 2) (m := 0) (fun d hd => ?_) (Nat.le_refl _)
  rcases List.mem_cons.mp hd with z | hd
  · rw [z]; exact Sm.int (by omega)
  · rcases List.mem_cons.mp hd with z | hd
    · rw [z]; exact Sm.int (by omega)
    · cases hd
theorem Sm.shape {L : List (Nat × Nat)} (hl : L.length ≤ 1000) (h : ∀ p ∈ L, p.1 + p.2 ≤ 1000000) : Sm 2 3000 (dShape L) := by
  refine Sm.tup (c := 1000) (m := 2) (fun d hd => ?_) (by rw [List.length_map]; exact hl)
  obtain ⟨p, hp, rfl⟩ := List.mem_map.mp hd
  exact Sm.pair (h p hp)
theorem Sm.two {n m : Nat} {d e : PyData} (h : Sm n m d) (k : Sm n m e) : Sm (n + 1) (2 * (m + 1)) (.list [d, e]) := Sm.lst (fun x hx => by
  rcases List.mem_cons.mp hx with z | hx
  · rw [z]; exact h
  · rcases List.mem_cons.mp hx with z | hx
    · rw [z]; exact k
    · cases hx) (Nat.le_refl 2)
theorem Sm.d60 {n m : Nat} {d : PyData} (s : Sm n m d) (hn : n ≤ 60) : PyData.depth d ≤ 60 := Nat.le_trans s.dp hn
theorem Sm.len {n m : Nat} {d : PyData} (s : Sm n m d) (hm : m ≤ 1000000) : d.shown.length ≤ sizeLine := PyData.shown_fits_bulk (B := 13) (by decide) (by decide) s.lf (Nat.le_trans s.bk (Nat.le_trans hm (by decide)))
/-- repr of a list or a tuple that is small: a text -/
theorem rc_repr {K : PySem.W.Frag} {H : Hp} {v : V} {d : PyData} {n m : Nat} (h : Dp K H v d) (hd : isDisplay d = true) (s : Sm n m d) (hn : n ≤ 60) (hm : m ≤ 1000000) {Q : VK} (q : Q (.str d.shown) H) : rRepr K [v] H Q :=
  ⟨v, d, rfl, h, hd, s.sh, s.nd, Nat.le_trans s.dp hn, PyData.shown_fits_bulk (B := 13) (by decide) (by decide) s.lf (Nat.le_trans s.bk (Nat.le_trans hm (by decide))), q⟩
end Pu
set_option Elab.async false
set_option linter.all false
set_option maxRecDepth 100000
set_option maxHeartbeats 4000000
namespace K08
open PySem PySem.Spec PyProof.Rows L2 GxR Pu
def topS (i : Nat) : Stmt := PySem.Challenge.pw_farstory_k08_spans_nested_and_what_is_le.main.body.getD i (.Pass ⟨0, 0, 0, 0⟩)
abbrev sIsInteger : Stmt := topS 4
abbrev sIsNumber : Stmt := topS 5
abbrev sIsSequence : Stmt := topS 6
abbrev sIsOfParts : Stmt := topS 7
abbrev sNeedNumber : Stmt := topS 8
abbrev sIsReading : Stmt := topS 11
abbrev sIsSize : Stmt := topS 12
abbrev sSumsWith : Stmt := topS 13
abbrev sEndsOf : Stmt := topS 14
abbrev sIsSpan : Stmt := topS 15
abbrev sSpanOf : Stmt := topS 16
abbrev sBehind : Stmt := topS 17
abbrev sIsWithin : Stmt := topS 18
abbrev sIsApart : Stmt := topS 19
abbrev sAreClear : Stmt := topS 20
abbrev sAreSpans : Stmt := topS 21
abbrev sAreNested : Stmt := topS 22
abbrev sAreParts : Stmt := topS 23
abbrev sRowsBetween : Stmt := topS 24
abbrev sRest : Stmt := topS 25
abbrev sBox : Stmt := topS 27
abbrev sTake : Stmt := topS 28
abbrev sPick : Stmt := topS 29
abbrev sLRows : Stmt := topS 30
abbrev sLSome : Stmt := topS 31
abbrev sLStand : Stmt := topS 32
abbrev sLNested : Stmt := topS 33
abbrev sLRefused : Stmt := topS 34
abbrev sLaw : Stmt := topS 35
theorem scIsInteger : FnScope ["value"] ["value"] (defScope sIsInteger) := ⟨rfl, rfl, rfl, by decide +kernel, rfl, by decide +kernel, by decide +kernel⟩
theorem scIsNumber : FnScope ["value"] ["value"] (defScope sIsNumber) := ⟨rfl, rfl, rfl, by decide +kernel, rfl, by decide +kernel, by decide +kernel⟩
theorem scIsSequence : FnScope ["value"] ["value"] (defScope sIsSequence) := ⟨rfl, rfl, rfl, by decide +kernel, rfl, by decide +kernel, by decide +kernel⟩
theorem scIsOfParts : FnScope ["value", "many"] ["value", "many"] (defScope sIsOfParts) := ⟨rfl, rfl, rfl, by decide +kernel, rfl, by decide +kernel, by decide +kernel⟩

/-- the names of the module that the defs read -/
structure Mg (mg : Str → Option Value) : Prop where
  isinstance : mg "isinstance" = none
  int : mg "int" = none
  bool : mg "bool" = none
  list : mg "list" = none
  tuple : mg "tuple" = none
  len : mg "len" = none
  range : mg "range" = none
  enumerate : mg "enumerate" = none
  reversed : mg "reversed" = none
  all : mg "all" = none
  abs : mg "abs" = none
  max : mg "max" = none
  min : mg "min" = none
  set : mg "set" = none
  repr : mg "repr" = none
  any : mg "any" = none
  zip : mg "zip" = none
  sum : mg "sum" = none

def isNum : V → Bool
  | .int i => decide (i ≥ 0)
  | _ => false
def isSeq : String → Bool := fun t => t == "tuple" || t == "list"
def pInteger : List V → Heap → V → Prop := fun vs g v => ∃ x t, vs = [x] ∧ TyG g x t ∧ v = .bl (t == "int")
def pNumber : List V → Heap → V → Prop := fun vs g v => ∃ x t, vs = [x] ∧ TyG g x t ∧ v = .bl (isNum x)
def pSequence : List V → Heap → V → Prop := fun vs g v => ∃ x t, vs = [x] ∧ TyG g x t ∧ v = .bl (isSeq t)
/-- the value's parts, if it has some -/
inductive PartsG (g : Heap) : V → Option Nat → Prop
  | seq {b : Bool} {a : Addr} {its : List Value} (h : SeqG g b a its) : PartsG g (.ref a) (some its.length)
  | no {x : V} {t : String} (h : TyG g x t) (n : isSeq t = false) : PartsG g x none
def pOfParts : List V → Heap → V → Prop := fun vs g v => ∃ (x : V) (n : Option Nat) (m : Int), vs = [x, .int m] ∧ PartsG g x n ∧ v = .bl (match n with | some k => decide ((k : Int) = m) | none => false)
theorem PartsG.mono {g h : Heap} {x : V} {n : Option Nat} (y : PartsG g x n) (e : Ext g h) : PartsG h x n := by
  cases y with
  | seq q => exact .seq (q.mono e)
  | no q n => exact .no (q.mono e) n

section
variable {P : Program} {w : World} {K : PySem.W.Frag} {mg : Str → Option Value} {base : Heap}
theorem kitsI {g : Heap} {x : V} {t : String} (y : TyG g x t) : ∃ b1 b2, kitB t "int" = some b1 ∧ kitB t "bool" = some b2 ∧ (b1 && !b2) = (t == "int") := by
  cases y with
  | non => exact ⟨false, false, by decide +kernel, by decide +kernel, by decide⟩
  | bl b => exact ⟨true, true, by decide +kernel, by decide +kernel, by decide⟩
  | int i => exact ⟨true, false, by decide +kernel, by decide +kernel, by decide⟩
  | str x => exact ⟨false, false, by decide +kernel, by decide +kernel, by decide⟩
  | tup q => exact ⟨false, false, by decide +kernel, by decide +kernel, by decide⟩
  | lst q => exact ⟨false, false, by decide +kernel, by decide +kernel, by decide⟩
theorem kitsS {g : Heap} {x : V} {t : String} (y : TyG g x t) : PySem.W.kitAny K (.type t) (["list", "tuple"].map Value.type) = some (isSeq t) := by
  have two : ∀ b1 b2, kitB t "list" = some b1 → kitB t "tuple" = some b2 → PySem.W.kitAny K (.type t) (["list", "tuple"].map Value.type) = some (b1 || b2) := fun b1 b2 h1 h2 =>
    kitAny_cons (kit_ty h1) (fun e => kitAny_cons (kit_ty h2) (fun e2 => by rw [e, e2]; exact kitAny_nil) (fun e2 => by rw [e2]; simp)) (fun e => by rw [e]; rfl)
  cases y with
  | non => exact two false false (by decide +kernel) (by decide +kernel)
  | bl b => exact two false false (by decide +kernel) (by decide +kernel)
  | int i => exact two false false (by decide +kernel) (by decide +kernel)
  | str x => exact two false false (by decide +kernel) (by decide +kernel)
  | tup q => exact two false true (by decide +kernel) (by decide +kernel)
  | lst q => exact two true false (by decide +kernel) (by decide +kernel)

theorem pf_is_integer {f : Addr} {fd : FuncData} (M : L2.Mod K mg base) (G : Mg mg) (F : Fun K "is_integer" "is_integer" sIsInteger f fd) : PF P w K mg base 1 f fd ["value"] pInteger := by
  refine pf_ret M F scIsInteger rfl (by decide +kernel) (fun cdv A L g us vs v hr hx r hl h hn => ?_) fun vs g h v e q => ?_
  · obtain ⟨x, t, rfl, ty, rfl⟩ := h
    obtain ⟨u, rfl, ru⟩ := vals1 r
    obtain ⟨m, ns, hm⟩ := hn 0 "value" u rfl rfl
    have FR : FrP K mg base A (envOfC "is_integer" (defScope sIsInteger) L f cdv) g := ⟨M, hx, rfl, rfl, rfl, hr.hd⟩
    have val : ∀ {pos : Pos}, EV P w A (envOfC "is_integer" (defScope sIsInteger) L f cdv) g (.Name "value" pos) x := ev_loc FR rfl ns hm ru
    obtain ⟨b1, b2, h1, h2, e⟩ := kitsI ty
    rw [← e]
    exact ev_and (ev_isi FR rfl G.isinstance val ty rfl G.int (by decide +kernel) h1) fun _ => ev_one (ev_not (ev_isi FR rfl G.isinstance val ty rfl G.bool (by decide +kernel) h2))
  · obtain ⟨x, t, h1, h2, h3⟩ := q
    exact ⟨x, t, h1, h2.mono e, h3⟩
theorem pf_is_number {f f1 : Addr} {fd fd1 : FuncData} (M : L2.Mod K mg base) (G : Mg mg) (F : Fun K "is_number" "is_number" sIsNumber f fd) (F1 : Fun K "is_integer" "is_integer" sIsInteger f1 fd1) (b1 : Binds K fd1 ["value"] []) (m1 : mg "is_integer" = some (.ref f1)) :
    PF P w K mg base 2 f fd ["value"] pNumber := by
  have G1 : PF P w K mg base 1 f1 fd1 ["value"] pInteger := pf_is_integer M G F1
  refine pf_ret M F scIsNumber rfl (by decide +kernel) (fun cdv A L g us vs v hr hx r hl h hn => ?_) fun vs g h v e q => ?_
  · obtain ⟨x, t, rfl, ty, rfl⟩ := h
    obtain ⟨u, rfl, ru⟩ := vals1 r
    obtain ⟨m, ns, hm⟩ := hn 0 "value" u rfl rfl
    have FR : FrP K mg base A (envOfC "is_number" (defScope sIsNumber) L f cdv) g := ⟨M, hx, rfl, rfl, rfl, hr.hd⟩
    have val : ∀ {pos : Pos}, EV P w A (envOfC "is_number" (defScope sIsNumber) L f cdv) g (.Name "value" pos) x := ev_loc FR rfl ns hm ru
    have one : ∀ {p q pos : Pos}, EV P w A (envOfC "is_number" (defScope sIsNumber) L f cdv) g (.Call (.Name "is_integer" p) [.Name "value" q] [] pos) (.bl (t == "int")) := fun {p q pos} =>
      ev_pf FR G1 hr rfl m1 F1.kp b1 (ea_cons val ea_nil) rfl fun h e => ⟨x, t, rfl, ty.mono e, rfl⟩
    cases ty with
    | int i => exact ev_and (x := true) (y := decide (i ≥ 0)) one fun _ => ev_one (ev_ge val ev_int)
    | non => exact ev_and (x := false) (y := false) one fun h => nomatch h
    | bl b => exact ev_and (x := false) (y := false) one fun h => nomatch h
    | str s => exact ev_and (x := false) (y := false) one fun h => nomatch h
    | tup s => exact ev_and (x := false) (y := false) one fun h => nomatch h
    | lst s => exact ev_and (x := false) (y := false) one fun h => nomatch h
  · obtain ⟨x, t, h1, h2, h3⟩ := q
    exact ⟨x, t, h1, h2.mono e, h3⟩
theorem pf_is_sequence {f : Addr} {fd : FuncData} (M : L2.Mod K mg base) (G : Mg mg) (F : Fun K "is_sequence" "is_sequence" sIsSequence f fd) : PF P w K mg base 1 f fd ["value"] pSequence := by
  refine pf_ret M F scIsSequence rfl (by decide +kernel) (fun cdv A L g us vs v hr hx r hl h hn => ?_) fun vs g h v e q => ?_
  · obtain ⟨x, t, rfl, ty, rfl⟩ := h
    obtain ⟨u, rfl, ru⟩ := vals1 r
    obtain ⟨m, ns, hm⟩ := hn 0 "value" u rfl rfl
    have FR : FrP K mg base A (envOfC "is_sequence" (defScope sIsSequence) L f cdv) g := ⟨M, hx, rfl, rfl, rfl, hr.hd⟩
    exact ev_isiT (Ts := ["list", "tuple"]) FR rfl G.isinstance (ev_loc FR rfl ns hm ru) ty (ea_cons (ev_blt FR rfl G.list (by decide +kernel) rfl) (ea_cons (ev_blt FR rfl G.tuple (by decide +kernel) rfl) ea_nil)) (kitsS ty) (by decide)
  · obtain ⟨x, t, h1, h2, h3⟩ := q
    exact ⟨x, t, h1, h2.mono e, h3⟩
theorem pf_is_of_parts {f f1 : Addr} {fd fd1 : FuncData} (M : L2.Mod K mg base) (G : Mg mg) (F : Fun K "is_of_parts" "is_of_parts" sIsOfParts f fd) (F1 : Fun K "is_sequence" "is_sequence" sIsSequence f1 fd1) (b1 : Binds K fd1 ["value"] []) (m1 : mg "is_sequence" = some (.ref f1)) :
    PF P w K mg base 2 f fd ["value", "many"] pOfParts := by
  have G1 : PF P w K mg base 1 f1 fd1 ["value"] pSequence := pf_is_sequence M G F1
  refine pf_ret M F scIsOfParts rfl (by decide +kernel) (fun cdv A L g us vs v hr hx r hl h hn => ?_) fun vs g h v e q => ?_
  · obtain ⟨x, n, k, rfl, pt, rfl⟩ := h
    obtain ⟨u, u2, rfl, ru, ru2⟩ := vals2 r
    obtain ⟨m, ns, hm⟩ := hn 0 "value" u rfl rfl
    obtain ⟨m2, ns2, hm2⟩ := hn 1 "many" u2 rfl rfl
    have FR : FrP K mg base A (envOfC "is_of_parts" (defScope sIsOfParts) L f cdv) g := ⟨M, hx, rfl, rfl, rfl, hr.hd⟩
    have val : ∀ {pos : Pos}, EV P w A (envOfC "is_of_parts" (defScope sIsOfParts) L f cdv) g (.Name "value" pos) x := ev_loc FR rfl ns hm ru
    have one : ∀ {t : String} {p q pos : Pos}, TyG g x t → EV P w A (envOfC "is_of_parts" (defScope sIsOfParts) L f cdv) g (.Call (.Name "is_sequence" p) [.Name "value" q] [] pos) (.bl (isSeq t)) := fun {t p q pos} ty =>
      ev_pf FR G1 hr rfl m1 F1.kp b1 (ea_cons val ea_nil) rfl fun h e => ⟨x, t, rfl, ty.mono e, rfl⟩
    cases pt with
    | @seq b a its q =>
      have s1 : isSeq (if b = true then "tuple" else "list") = true := by cases b <;> rfl
      refine ev_and (x := true) (y := decide ((its.length : Int) = k)) ?_ fun _ => ev_one (ev_eqI (ev_len FR rfl G.len val q) (ev_loc FR rfl ns2 hm2 ru2))
      rw [← s1]
      exact one (TyG.seq q)
    | @no _ t ty hno =>
      refine ev_and (x := false) (y := false) ?_ fun h => nomatch h
      rw [← hno]
      exact one ty
  · obtain ⟨x, n, k, h1, h2, h3⟩ := q
    exact ⟨x, n, k, h1, h2.mono e, h3⟩
end
end K08
namespace K08
open PySem PySem.Spec PyProof.Rows L2 GxR Pu Evl
theorem scNeedNumber : FnScope ["value"] ["value"] (defScope sNeedNumber) := ⟨rfl, rfl, rfl, by decide +kernel, rfl, by decide +kernel, by decide +kernel⟩
/-- a promise of a value, of a new tuple -/
def spV (pre : List V → Hp → V → Prop) : Sp := fun vs H Q _ => ∃ v, pre vs H v ∧ ∀ H', Ex H H' → Q v H'
def spT (pre : List V → Hp → List V → Prop) : Sp := fun vs H Q _ => ∃ xs, pre vs H xs ∧ ∀ p H', H p = none → Ex H H' → H' p = some (.tup xs) → Q (.ref p) H'
theorem spV.use {pre : List V → Hp → V → Prop} {vs : List V} {H : Hp} {v : V} (h : ∀ H1, Ex H H1 → pre vs H1 v) : SpV (spV pre) vs H v := fun H1 e Q q E => ⟨v, h H1 e, q⟩
theorem spPure.use {P : Program} {w : World} {base : Heap} {ps : List Str} {sp : List V → Heap → V → Prop} {vs : List V} {H : Hp} {v : V} (hl : vs.length = ps.length) (h : ∀ H1, Ex H H1 → ∀ h, HOk P w H1 h → Ext base h → sp vs h v) :
    SpV (spPure P w base ps sp) vs H v := fun H1 e Q q E => ⟨hl, v, h H1 e, q H1 (Ex.refl H1)⟩
/-- the facts of all defs that others call -/
structure Fns (K : PySem.W.Frag) (mg : Str → Option Value) (x : Str) (ps : List Str) (st : Stmt) (f : Addr) (fd : FuncData) : Prop where
  fn : Fun K x x st f fd
  bd : Binds K fd ps []
  mg : mg x = some (.ref f)
section
variable {P : Program} {w : World} {K : PySem.W.Frag} {mg : Str → Option Value} {base : Heap}
variable {fInt fNum fSeq fPar fNN fIK fNK fCO fSF fNR fSh fSt fIS fFO fLS fLG fSA fFB : Addr} {dInt dNum dSeq dPar dNN dIK dNK dCO dSF dNR dSh dSt dIS dFO dLS dLG dSA dFB : FuncData}
def pNat : List V → Hp → V → Prop := fun vs H v => ∃ i : Int, vs = [.int i] ∧ 0 ≤ i ∧ v = .non
theorem ok_need_number {f : Addr} {fd : FuncData} (M : L2.Mod K mg base) (G : Mg mg) (F : Fun K "need_number" "need_number" sNeedNumber f fd) (F1 : Fns K mg "is_number" ["value"] sIsNumber fNum dNum) (F2 : Fns K mg "is_integer" ["value"] sIsInteger fInt dInt) :
    FnOk P w K mg base CX0 3 f fd ["value"] (spV pNat) := by
  have G1 : FnOk P w K mg base CX0 2 fNum dNum ["value"] (spPure P w base ["value"] pNumber) := (pf_is_number M G F1.fn F2.fn F2.bd F2.mg).ok
  refine F.ok scNeedNumber (fun vs H Q E h => ?_) (fun cdv A outer s H vs Q E hr h => ?_)
  · obtain ⟨v, ⟨i, rfl, _⟩, _⟩ := h
    rfl
  · obtain ⟨v, ⟨i, rfl, hi, rfl⟩, k⟩ := h
    refine ⟨_, pss_one (ps_if (pt_not (pt_val (pe_call G1 hr (by rfl) F1.mg F1.fn.kp F1.bd .nil pass0 (pa_cons (pv 0) pa_nil)))) pss_never pss_nil), ?_⟩
    have e1 : EvT (tNot (tB (tCall (spPure P w base ["value"] pNumber) [] E0 (tCons (tVar 0) tNil)))) (start ["value"] [V.int i]) H (!true) :=
      et_not (et_B (ev_call (ea_cons (ev_var rfl) ea_nil) (spPure.use rfl fun H1 _ h _ _ => ⟨.int i, "int", rfl, .int i, by rw [show isNum (.int i) = decide (i ≥ 0) from rfl, decide_eq_true hi]⟩)))
    exact s_if e1 (fun z => nomatch z) fun _ H1 e => k H1 e
end
end K08
set_option Elab.async false
set_option linter.all false
set_option maxRecDepth 100000
set_option maxHeartbeats 4000000
namespace Pu
open PySem PySem.Spec PyProof.Rows L2 GxR
section
variable {P : Program} {w : World} {K : PySem.W.Frag} {mg mb : Str → Option Value} {fa a c : Addr} {cs : List (Addr × Addr)} {fd : FuncData} {N : List Str} {x : Str} {st : Stmt} {s₁ : Shared} {vs : List Value} {ns : List Int}
/-- what a law's body is asked: from any base and state, at the caller that the claim names -/
def BodyOkC (P : Program) (w : World) (K : PySem.W.Frag) (mg : Str → Option Value) (cs : List (Addr × Addr)) (N : List Str) (st : Stmt) (fa a : Addr) (ns : List Int) (cdv : Value) : Prop :=
  ∀ (base : Heap) (s : Shared) (H : Hp), L2.Mod K mg base → (∀ p ∈ cs, TabB base mg p.1 p.2) → (∀ p ∈ cs, H p.2 = some (.tbl #[])) → SqL K H a (ns.map V.int) →
    ∃ t, PSs (cxOf CX0 P w K mg base N "law" (defScope st) fa cdv callerA [] s H E0).nox (defBody st) t ∧ t { nx := fun _ _ => False, rt := fun v _ => v = .bl true } (start N [.ref a]) H
/-- from a heap that is told by H -/
theorem law_fromC {H : Hp} (Fn : FunC K "law" "law" st fa fd c) (S : FnScope N [x] (defScope st)) (hbind : ∀ (s : Shared) (u : Value), BindsTo s fd ⟨[u], []⟩ [(x, u)]) (hr : Room 9 callerA)
    (B : BodyOkC P w K mg cs N st fa a ns (.ref c)) (base : Heap) (M : L2.Mod K mg base) (hT : ∀ p ∈ cs, TabB base mg p.1 p.2) (hH : ∀ p ∈ cs, H p.2 = some (.tbl #[])) (hS : SqL K H a (ns.map V.int))
    (e0 : Env0 P w K mg base callerA [] s₁ H) :
    codeAny (model P w) callerA (.call (.ref fa) ⟨[.ref a], []⟩) (fun r s' => ∃ H', r = .ok (.ret (.bool true)) ∧ s'.os = s₁.os ∧ AllBare s'.gens ∧ Un [] [] H H' s₁.heap s'.heap ∧ HOk P w H' s'.heap) s₁ := by
  obtain ⟨oc, od, kV, doc, pm, an, ct, osl, rfl, lk, hcd⟩ := Fn.ex
  obtain ⟨t, ht, hq⟩ := B base s₁ H M hT hH hS
  have KX : K.In s₁.heap := M.kin.keeps fun b o e => (e0.bs b o e).1
  have lim : s₁.heap.NoLimit := M.nolimit.keeps fun b o e => (e0.bs b o e).1
  have kinds : ∀ y ∈ [x].zip [Value.ref a], (defScope st).names.lookup y.1 = some .local ∨ ((defScope st).names.lookup y.1 = some .cell ∧ ((cellsFrom (s₁.heap.objs.size + 1) (defScope st).names []).lookup y.1).isSome = true) := fun ⟨n, v⟩ hy => by
    rcases S.par n (List.of_mem_zip hy).1 with q | q
    · exact .inl q
    · exact .inr ⟨q, PySem.W.cellsFrom_some _ _ _ (.inl q)⟩
  refine codeAny_call_function hr.depth (KX _ _ lk) rfl S.co S.gen rfl (PySem.W.codeRec_of KX hcd) (hbind s₁ (.ref a) _ _ _ _ ?_)
  refine wpAny_newFunctionEnv_cells S.kind kinds fun env he s1 X => ?_
  subst he
  refine ⟨lim.keeps X.toInCall.keep, codeAny_func ?_⟩
  have I : Inv (cxOf CX0 P w K mg base N "law" (defScope st) fa (.ref c) callerA [] s₁ H E0) [] (start N [.ref a]) H s1 := inv_start (ps := [x]) (us := [.ref a]) S hr.hd e0 rfl (.cons rfl .nil) X
  refine wpAny_mono (ht.run [] s1 (start N [.ref a]) H _ (I.wish _) hq) (fun fl s' hs => ?_) fun e s' hs => hs.elim
  cases fl with
  | ret u =>
    obtain ⟨v, σ', H', J, rv, q⟩ := hs
    have q2 : v = .bl true := q
    subst q2
    obtain rfl : u = Value.bool true := rv
    exact ⟨H', rfl, J.os, J.bare, J.base, J.hok⟩
  | next =>
    obtain ⟨_, _, _, q⟩ := hs
    exact q.elim
  | brk =>
    obtain ⟨_, _, _, q⟩ := hs
    exact False.elim q
  | cont =>
    obtain ⟨_, _, _, q⟩ := hs
    exact False.elim q

/-- the whole end: the heap as it stands behind the top -/
theorem law_endC (KX : K.In s₁.heap) (hns : s₁.heap.Ns mainGlobals mg) (hb : s₁.heap.Ns builtinsNs mb) (hbb : ∀ x : Str, x ≠ "__name__" → mb x = bootBuiltins x) (hlim : s₁.heap.NoLimit) (hg : s₁.gens = #[])
    (hcs : Bare cs K s₁.heap) (hbm : BltMod mg s₁.heap)
    (ha : s₁.heap.get? a = some { cls := .type "list", data := .seq vs.toArray }) (hi : IntsAre vs ns) (hl : ns.length ≤ sizeLine)
    (Fn : FunC K "law" "law" st fa fd c) (S : FnScope N [x] (defScope st)) (hbind : ∀ (s : Shared) (u : Value), BindsTo s fd ⟨[u], []⟩ [(x, u)]) (hr : Room 9 callerA) (B : BodyOkC P w K mg cs N st fa a ns (.ref c)) :
    SaysTrue P w fa a s₁ := by
  have hT := fun p hp => (hcs p hp).1.1
  have nT := fun p hp => (hcs p hp).1.2
  have C := fun p hp => (hcs p hp).2
  -- the tables, the script
  let Ts := cs.map (·.2)
  have tab : ∀ b, b ∈ Ts → s₁.heap.get? b = some { cls := .none, data := .fields #[] } := fun b h => by
    obtain ⟨p, hp, rfl⟩ := List.mem_map.mp h
    exact hT p hp
  have inT : ∀ p ∈ cs, p.2 ∈ Ts := fun p hp => List.mem_map.mpr ⟨p, hp, rfl⟩
  have aNot : a ∉ Ts := fun z => by
    have q := (tab a z).symm.trans ha
    cases congrArg Obj.data (Option.some.inj q)
  have rv := vals_ints hi
  have frame : ∀ (u : Option HO), (u = none ∨ u = some (.frz { cls := .type "list", data := .seq vs.toArray } (.lst (ns.map V.int)))) → (u ≠ none → K.lookup a = none) →
      SqL K (fun b => if b = a then u else if b ∈ Ts then some (.tbl #[]) else none) a (ns.map V.int) →
      SaysTrue P w fa a s₁ := by
    intro u hu hKa hS
    generalize hHdef : (fun b => if b = a then u else if b ∈ Ts then some (HO.tbl #[]) else none : Hp) = H at hS
    have Ha : H a = u := by rw [← hHdef]; exact if_pos rfl
    have HT : ∀ b, b ∈ Ts → H b = some (.tbl #[]) := fun b h => by
      have nb : b ≠ a := fun z => aNot (z ▸ h)
      rw [← hHdef]
      exact (if_neg nb).trans (if_pos h)
    have HN : ∀ b, b ≠ a → b ∉ Ts → H b = none := fun b h1 h2 => by
      rw [← hHdef]
      exact (if_neg h1).trans (if_neg h2)
    have ok : HOk P w H s₁.heap := fun b o e => by
      by_cases h1 : b = a
      · subst h1
        rw [Ha] at e
        rcases hu with z | z
        · rw [z] at e; cases e
        · rw [z] at e
          cases e
          exact ⟨ha, by rw [List.length_map]; exact hl, vs, _, rv, ha⟩
      · by_cases h2 : b ∈ Ts
        · rw [HT b h2] at e
          cases e
          exact tab b h2
        · rw [HN b h1 h2] at e; cases e
    -- what is neither a list nor an empty table is not tracked
    have plain : ∀ {b : Addr} {o : Obj}, s₁.heap.get? b = some o → (∀ q n, o.data ≠ .seq q n) → o.data ≠ .fields #[] → H b = none := fun {b o} e h1 h2 => by
      refine HN b (fun z => ?_) fun z => ?_
      · rw [z, ha] at e
        cases e
        exact h1 _ _ rfl
      · rw [tab b z] at e
        cases e
        exact h2 rfl
    have dct : ∀ {b : Addr} {o : Obj} {es : Array DictEntry} {ep : Nat}, s₁.heap.get? b = some o → o.data = .dict es ep → H b = none := fun e d =>
      plain e (fun q n z => by rw [d] at z; cases z) fun z => by rw [d] at z; cases z
    have bg : ∀ {b : Addr} {o : Obj}, s₁.heap.get? b = some o → H b = none → (hidT s₁.heap H).get? b = some o := fun e n => hidT_get e n
    have nsB : ∀ {b : Addr} {m : Str → Option Value}, s₁.heap.Ns b m → (hidT s₁.heap H).Ns b m := fun ⟨o, es, ep, e, d, r⟩ => ⟨o, es, ep, bg e (dct e d), d, r⟩
    have KB : K.In (hidT s₁.heap H) := fun b o e => by
      refine bg (KX b o e) ?_
      by_cases h1 : b = a
      · rw [h1, Ha]
        rcases hu with z | z
        · exact z
        · have := hKa (by rw [z]; simp)
          rw [← h1, e] at this
          cases this
      · refine HN b h1 fun h2 => ?_
        obtain ⟨p, hp, ep⟩ := List.mem_map.mp h2
        rw [← ep, nT p hp] at e
        cases e
    have M : L2.Mod K mg (hidT s₁.heap H) := ⟨KB, nsB hns, ⟨mb, nsB hb, hbb⟩, let ⟨mc, h1, h2⟩ := hlim; ⟨mc, nsB h1, h2⟩⟩
    have TB : ∀ p ∈ cs, TabB (hidT s₁.heap H) mg p.1 p.2 := fun p hp => by
      have hTp := hT p hp
      refine ⟨?_, ?_, fun z => ?_⟩
      · obtain ⟨o, us, file, tf, flags, tg, inF, text, tt, e1, r1, r2, r3, r⟩ := C p hp
        refine ⟨o, us, file, tf, flags, tg, inF, text, tt, bg e1 (plain e1 (fun q n z => ?_) fun z => ?_), r1, r2, r3, r⟩
        · rw [r2] at z; cases z
        · rw [r2] at z
          cases z
          simp at r3
      · obtain ⟨bm, ob, b1, b2, b3, b4, b5, b6⟩ := hbm
        have nG : bm ≠ mainGlobals := fun q => by
          obtain ⟨o, es, ep, e, hd, _⟩ := hns
          rw [q, e] at b3
          cases b3
          rw [hd] at b6
          cases b6
        have nP : bm ≠ p.2 := fun q => by
          rw [q, hTp] at b3
          cases b3
          cases b6
        exact ⟨bm, ob, b1, b2, nG, nP, bg b3 (plain b3 (fun q n z => by rw [b6] at z; cases z) fun z => by rw [b6] at z; cases z), b4, b5, b6⟩
      · obtain ⟨o, es, ep, e, hd, _⟩ := hns
        rw [z, hTp] at e
        cases e
        cases hd
    have e0 : Env0 P w K mg (hidT s₁.heap H) callerA [] s₁ H :=
      ⟨rfl, M, fun b o e => of_hidT e, Nat.le_of_eq (hidT_size _ _), trivial, fun b hb => absurd (show b ∈ ([] : List Addr) from hb) List.not_mem_nil, ok, .of_eq hg⟩
    refine codeAny_mono (law_fromC Fn S hbind hr B _ M TB (fun p hp => HT _ (inT p hp)) hS e0) fun r s' h => ?_
    obtain ⟨H', rfl, os, bare, un, ok'⟩ := h
    have same : ∀ b o, b ∉ Ts → s₁.heap.get? b = some o → s'.heap.get? b = some o := fun b o nb e => by
      by_cases h1 : b = a
      · rcases hu with z | z
        · exact un.keep b o e (by rw [h1, Ha, z]) (by simp) (by simp)
        · have z1 : H a = some (.frz { cls := .type "list", data := .seq vs.toArray } (.lst (ns.map V.int))) := Ha.trans z
          obtain ⟨e2, _⟩ := ok' a _ (un.frzs a _ _ z1)
          rw [h1] at e ⊢
          rw [ha] at e
          cases e
          exact e2
      · exact un.keep b o e (HN b h1 nb) (by simp) (by simp)
    have grown : ∀ b, b ∈ Ts → ∃ more : Array Value, s'.heap.get? b = some { cls := .none, data := .fields more } := fun b h => by
      obtain ⟨more, z⟩ := un.tbls b #[] (HT b h)
      exact ⟨_, ok' b _ z⟩
    refine ⟨rfl, ⟨fun b o e => ?_, fun b o e => ?_⟩, os, bare⟩
    · by_cases h : b ∈ Ts
      · obtain ⟨more, hm⟩ := grown b h
        obtain ⟨p, hp, rfl⟩ := List.mem_map.mp h
        rw [hT p hp] at e
        cases e
        exact .inr (.inl ⟨((C p hp).tab (hT p hp)).isCodeTable, rfl, #[], more, rfl, by rw [Array.empty_append]; exact hm⟩)
      · exact .inl (same b o h e)
    · by_cases h : b ∈ Ts
      · obtain ⟨more, hm⟩ := grown b h
        exact ⟨_, hm⟩
      · exact ⟨o, same b o h e⟩
  cases hk : K.lookup a with
  | some o =>
    have e := KX a o hk
    rw [ha] at e
    cases e
    refine frame none (.inl rfl) (fun h => (h rfl).elim) (.inr ⟨_, vs.toArray, _, hk, rfl, rfl, rfl, ?_, by simpa using rv⟩)
    rw [List.size_toArray, hi.length]
    exact hl
  | none => exact frame _ (.inr rfl) (fun _ => hk) (.inl (.inr ⟨_, if_pos rfl⟩))
end
end Pu
set_option Elab.async false
set_option linter.all false
set_option maxRecDepth 100000
set_option maxHeartbeats 4000000
namespace Pu
open PySem PySem.Spec PyProof.Rows L2 GxR Evl
/-- x is True, x a whole number, None or a truth -/
def isTr : V → Option Bool
  | .int _ => some false
  | .non => some false
  | .bl b => some b
  | _ => none
theorem op_isTr {X : Cx} : OpR X (compareOp .Is) (fun x y H Q => ∃ b, isTr x = some b ∧ y = .bl true ∧ Q (.bl b) H) := by
  intro pins s σ H x y v u Q I rx ry h
  obtain ⟨b, hb, rfl, q⟩ := h
  cases (show u = Value.bool true from ry)
  have no : ∀ {v : Value}, plainIs v (.bool true) = true → v ≠ .bool true → Q (.bl false) H → wpAny (model X.prog X.w) X.A (compareOp .Is v (.bool true)) (EP X pins σ Q) X.xe s := fun p n q => wpAny_is_other p n ⟨.bl false, H, I, rfl, q⟩
  cases x with
  | int i =>
    obtain ⟨t, rfl⟩ := rx
    cases hb
    exact no rfl (fun z => nomatch z) q
  | non =>
    cases (show v = Value.none from rx)
    cases hb
    exact no rfl (fun z => nomatch z) q
  | bl a =>
    cases (show v = Value.bool a from rx)
    cases hb
    cases b with
    | true => exact wpAny_is_self rfl ⟨.bl true, H, I, rfl, q⟩
    | false => exact no rfl (fun z => nomatch z) q
  | _ => cases hb
end Pu
set_option Elab.async false
set_option linter.all false
set_option maxRecDepth 100000
set_option maxHeartbeats 4000000
namespace Pu
open PySem PySem.Spec PyProof.Rows L2 GxR Evl
/-- how a flat value is shown -/
def shownS : V → Option Str
  | .non => some "None"
  | .bl b => some (if b then "True" else "False")
  | .int i => some (toString i)
  | .str x => some (reprText x)
  | _ => none
def okS : V → Bool
  | .int i => decide (i.natAbs ≤ 1000000000)
  | .str x => decide ((reprText x).length ≤ 1000)
  | _ => true
/-- a value that can be shown, so -/
def Shown (K : PySem.W.Frag) (H : Hp) (x : V) (s : Str) : Prop := (shownS x = some s ∧ okS x = true) ∨ ∃ d, Dp K H x d ∧ isDisplay d = true ∧ d.showable = true ∧ d.hasDict = false ∧ d.depth ≤ 60 ∧ d.shown.length ≤ sizeLine ∧ d.shown = s
def rReprS (K : PySem.W.Frag) : List V → Hp → VK → Prop := fun vs H Q => ∃ x s, vs = [x] ∧ Shown K H x s ∧ Q (.str s) H
theorem cr_reprS {X : Cx} (hu : X.A.units + 64 < cLine) (hg : X.A.guards = some []) : CallR X (.builtin "repr") (rReprS X.K) := by
  intro pins s σ H vs us Q I r h
  obtain ⟨x, t, rfl, hx, q⟩ := h
  rcases hx with ⟨h1, h2⟩ | ⟨d, hd, hi, hs, hn, hz, hl, rfl⟩
  · obtain ⟨u, rfl, rv⟩ := vals1 r
    cases x with
    | non =>
      cases (show u = Value.none from rv)
      cases h1
      exact PySem.P.repr_of_none ⟨.str _, H, I.tok _, ⟨_, rfl⟩, q⟩
    | bl b =>
      cases (show u = Value.bool b from rv)
      cases h1
      exact PySem.P.repr_of_bool ⟨.str _, H, I.tok _, ⟨_, rfl⟩, q⟩
    | int i =>
      obtain ⟨t, rfl⟩ := rv
      cases h1
      have h3 : i.natAbs ≤ 1000000000 := of_decide_eq_true h2
      exact PySem.P.repr_of_int (Nat.lt_of_lt_of_le (PySem.Flt.log2_lt_of (by decide) (Nat.lt_of_le_of_lt h3 (by decide : 1000000000 < 2 ^ 40))) (by decide)) ⟨.str _, H, I.tok _, ⟨_, rfl⟩, q⟩
    | str y =>
      obtain ⟨t, rfl⟩ := rv
      cases h1
      have h3 : (reprText y).length ≤ 1000 := of_decide_eq_true h2
      exact PySem.P.repr_of_str ⟨.str _, H, I.tok _, ⟨_, rfl⟩, q⟩ (Nat.le_trans h3 (by decide))
    | _ => cases h1
  · exact cr_repr hu hg pins s σ H _ us Q I r ⟨x, d, rfl, hd, hi, hs, hn, hz, hl, q⟩
end Pu
set_option Elab.async false
set_option linter.all false
set_option maxRecDepth 100000
set_option maxHeartbeats 4000000
namespace Pu
open PySem PySem.Spec PyProof.Rows L2
/-- isinstance(e, c), e the exception that the suite holds, with its dict -/
def rIsD (K : PySem.W.Frag) (cls : Value) (d : Option Addr) (a : Addr) : List V → Hp → VK → Prop := fun xs H Q => ∃ (D dd : Addr) (c : V) (cv : Value) (b : Bool) (fs : List (Str × V)), cls = .ref D ∧ d = some dd ∧ ExcC K D ∧ xs = [.ref a, c] ∧ H dd = some (.xd fs) ∧ (∀ u, RelV c u → u = cv) ∧ PySem.W.kitOne K (.ref D) cv = some b ∧ Q (.bl b) H
theorem call_isD {X : Cx} {a : Addr} {cls : Value} {d : Option Addr} {oe : Obj} {pn : List (Addr × Obj)} (hz : Zc cls d oe) (hf : ∃ vs, oe.data = .fields vs) : CallR (X.suite a ((a, oe) :: pn)) (.builtin "isinstance") (rIsD X.K cls d a) := by
  intro pins s σ H xs us Q I r h
  obtain ⟨D, dd, c, cv, b, fs, rfl, rfl, C, rfl, hx, hcv, e, q⟩ := h
  rcases r with _ | ⟨rx, _ | ⟨rt, _ | _⟩⟩
  cases rx
  obtain rfl := hcv _ rt
  have hget := (I.pin (a, oe) (List.mem_append.mpr (.inl List.mem_cons_self))).1
  have hd : ObjOk X.prog X.w H s.heap dd (.xd fs) := I.hok dd _ hx
  obtain ⟨mA, hns, _⟩ := hd
  obtain ⟨od, ho, _⟩ := lookIn_ns hns
  obtain ⟨vs, hv⟩ := hf
  have J : PySem.W.InstAt s.heap a oe D (some od) := ⟨hget, hz.1, by unfold PySem.W.notCls; rw [hv] <;> rfl, by rw [hz.2]; exact ho⟩
  have hcl : (PySem.W.clsIn X.K D).isSome = true := by
    obtain ⟨cd, hc, _⟩ := PySem.W.any_some C.hd
    rw [hc]
    rfl
  exact PySem.W.kia_one (PySem.W.kitx_exc hcl C.hg C.hk C.hs C.ha C.hn C.ht C.hm) I.kIn J e (fun z => nomatch z) fun tk => ⟨.bl b, H, I.kept (t' := tk) fun _ _ z => z, rfl, q⟩

/-! ### an error of the package that bears one value -/
/-- what the written part says of the error class at C, whose __init__ sets the field `at` -/
structure RefC (K : PySem.W.Frag) (C fI : Addr) : Prop where
  oex : OexC K C
  ini : PySem.W.findIn K (.ref C) "__init__" = some (some (.ref fI))
  tyI : PySem.W.typeIn K (.ref fI) = some (.type "function")
  xf : XfC K C
  ec : ExcC K C
  no : PySem.W.findIn K (.ref C) "at" = some none
/-- __init__(self, at): self.at = at -/
def spInitAt (C : Addr) : Sp := fun vs H Q _ => ∃ (a : Addr) (v : V), vs = [.ref a, v] ∧ H a = some (exo a C none) ∧ (∀ dx, H dx = none → dx ≠ a → Q .non (upd (upd H dx (exd dx [("at", v)])) a (exo a C (some dx))))
/-- raise C(e): what stands behind it -/
def tRef (C : Addr) (te : TE) (W : WX) : TS := fun _ σ H => te σ H fun v H1 => ∀ d, H1 d = none → W (.ref C) (some d) σ (upd H1 d (.xd [("at", v)]))
theorem exd_none {a dx : Addr} {H : Hp} {u : HO} (ha : H a = none) (hd : H dx = none) (ne : dx ≠ a) (o1 o2 o3 : HO) : upd (del (upd (upd (upd H a o1) dx o2) a o3) a) dx u = upd H dx u := by
  funext b
  by_cases h1 : b = dx
  · rw [h1, upd_same, upd_same]
  · rw [upd_ne h1, upd_ne h1]
    by_cases h2 : b = a
    · rw [h2, del_same, ha]
    · rw [del_ne h2, upd_ne h2, upd_ne h1, upd_ne h2]
/-- a reading that lets what is wanted be weakened -/
theorem pe_up {X : Cx} {e : Expr} {te : TE} (h : PE X e te) : PE X e (fun σ H Q => ∃ Q0, te σ H Q0 ∧ ∀ v H1, Q0 v H1 → Q v H1) :=
  ⟨fun pins s σ H Q I ⟨Q0, h0, k⟩ => thn (h.run pins s σ H Q0 I h0) fun u s1 ⟨v, H1, I1, r, q⟩ => ⟨v, H1, I1, r, k _ _ q⟩⟩
theorem ps_ref {X : Cx} {W : WX} {C fI : Addr} {fd : FuncData} {k : Nat} {x : Str} {e : Expr} {te : TE} {p p1 p2 : Pos} (R : RefC X.K C fI) (F : FnOk X.prog X.w X.K X.mg X.base CX0 k fI fd ["self", "at"] (spInitAt C)) (hr : Room (k + 1) X.A) (hb : Binds X.K fd ["self", "at"] [])
    (hc : X.calm = true) (tk : Takes X W) (hg : Gl X x) (hm : X.mg x = some (.ref C)) (he : PE X e te) (hdb : (x == ("__debug__" : Str)) = false := by decide)
    (h1 : starEach [e] X.env = (false, eval e X.env) :: starEach [] X.env := by rfl) (h2 : (backTo p1 (starEach [] X.env)).any (·.1) = false := by rfl) :
    PS X (.Raise (some (.Call (.Name x p) [e] [] p1)) none p2) (tRef C te W) := by
  refine ⟨fun pins s σ H D I h => (ps_raise hc tk (pmk_oex (ds := []) (dvs := []) R.oex R.ini R.tyI F hr hb .nil pass0 hg hm (pa_cons (pe_up he) pa_nil h1) hdb h1 h2)).run pins s σ H D I ?_⟩
  refine ⟨_, h, fun v H1 q => ⟨by simp, fun a ha => ⟨a, v, rfl, upd_same, fun dx hdx ne => ?_⟩⟩⟩
  have hd1 : H1 dx = none := by rw [upd_ne ne] at hdx; exact hdx
  refine ⟨rfl, dx, _, upd_same, by rw [upd_ne ne, upd_same], hd1, ?_⟩
  rw [exd_none ha hd1 ne]
  exact q dx hd1
end Pu
set_option Elab.async false
set_option linter.all false
set_option maxRecDepth 100000
set_option maxHeartbeats 4000000
namespace K08
open PySem PySem.Spec PyProof.Rows L2 GxR Pu Evl
/-- the statement of the class that errors of values have; its __init__ -/
def sInit : Stmt := match topS 2 with | .ClassDef (body := [s]) .. => s | s => s
theorem scInit : FnScope ["self", "at"] ["self", "at"] (defScope sInit) := ⟨rfl, rfl, rfl, by decide +kernel, rfl, by decide +kernel, by decide +kernel⟩
theorem scRefused : FnScope ["_law_ask", "fault"] ["_law_ask"] (defScope sLRefused) := ⟨rfl, rfl, rfl, by decide +kernel, rfl, by decide +kernel, by decide +kernel⟩
section
variable {P : Program} {w : World} {K : PySem.W.Frag} {mg : Str → Option Value} {base : Heap}
theorem ok_init {fI C : Addr} {fd : FuncData} (R : RefC K C fI) (F : Fun K "__init__" "Refused.__init__" sInit fI fd) : FnOk P w K mg base CX0 1 fI fd ["self", "at"] (spInitAt C) := by
  refine F.ok scInit (fun vs H Q E h => ?_) (fun cdv A outer s H vs Q E hr h => ?_)
  · obtain ⟨a, v, rfl, _⟩ := h
    rfl
  · obtain ⟨a, v, rfl, ha, kk⟩ := h
    refine ⟨_, pss_one (ps_ost (pv 0) (pv 1)), ?_⟩
    exact ⟨v, rfl, .ref a, rfl, a, C, rfl, R.oex, R.no, .inl ⟨ha, fun dx h1 h2 => kk dx h1 h2⟩⟩
end
/-- what the def that asks makes of a lambda's reading -/
def TRef (K : PySem.W.Frag) (C : Addr) : (XK → Hp → VK → Prop) → Hp → VK → Prop := fun tl H Q =>
  tl (fun cls d H' => ∃ dd v s, cls = .ref C ∧ d = some dd ∧ H' dd = some (.xd [("at", v)]) ∧ Shown K H' v s ∧ ∀ t, H' t = none → Q (.ref t) (upd H' t (.tup [.str "refused", .str s, .bl true]))) H (fun _ H' => Q .non H')
theorem takes_len {X : Cx} {W : WX} {n : Nat} (hn : X.N.length = n) (tk : Takes X W) : Takes X (fun cls d σ H => σ.length = n → W cls d σ H) := fun u s' ⟨a, B, sI, pins, σ, H, cls, d, e, I, nb, up, sky, na, os, ag, w⟩ =>
  tk u s' ⟨a, B, sI, pins, σ, H, cls, d, e, I, nb, up, sky, na, os, ag, w (I.len.trans hn)⟩
section
variable {X : Cx} {C CF fI g : Addr} {cdg : Value} {q : Str}
theorem ok_refused (R : RefC X.K C fI) (G : Mg X.mg) (hgd : X.A.guards = some []) (hun : X.A.units + 200 < cLine) (mC : X.mg "Refused" = some (.ref C)) (mF : X.mg "FarError" = some (.ref CF)) (kit : PySem.W.kitOne X.K (.ref C) (.ref CF) = some true) (exm : PySem.W.exmOne X.K (.ref C) (.ref C) = some true) :
    LamX.GivesTo X ["_law_ask", "fault"] "_law_refused" (defScope sLRefused) g cdg (defBody sLRefused) "_law_ask" q (TRef X.K C) := by
  intro f c' s H Q tl act hc h
  have cr1 : ∀ (a : Addr) (oe : Obj) (pn : List (Addr × Obj)), CallR (Cx.suite ((cxOf C8.CX0 X.prog X.w X.K X.mg X.base ["_law_ask", "fault"] "_law_refused" (defScope sLRefused) g cdg X.A X.stack s H C8.E0).nox) a ((a, oe) :: pn)) (.builtin "repr") (rReprS X.K) := fun a oe pn =>
    cr_reprS (X := Cx.suite ((cxOf C8.CX0 X.prog X.w X.K X.mg X.base ["_law_ask", "fault"] "_law_refused" (defScope sLRefused) g cdg X.A X.stack s H C8.E0).nox) a ((a, oe) :: pn)) (by show X.A.units + 3 + 64 < _; omega) hgd
  have cr2 : ∀ (a : Addr) (oe : Obj) (cls : Value) (d : Option Addr) (pn : List (Addr × Obj)), Zc cls d oe → (∃ vs, oe.data = .fields vs) → CallR (Cx.suite ((cxOf C8.CX0 X.prog X.w X.K X.mg X.base ["_law_ask", "fault"] "_law_refused" (defScope sLRefused) g cdg X.A X.stack s H C8.E0).nox) a ((a, oe) :: pn)) (.builtin "isinstance") (rIsD X.K cls d a) := fun a oe cls d pn hz hf => call_isD hz hf
  refine ⟨_, pss_cons (ps_try_as (X := (cxOf C8.CX0 X.prog X.w X.K X.mg X.base ["_law_ask", "fault"] "_law_refused" (defScope sLRefused) g cdg X.A X.stack s H C8.E0).nox) (c := .ref C) (i := 1) (Wout := fun _ _ _ _ => False)
      (tb := fun W D σ H => ∃ Ech : XK, (∀ cls d σ' H', Ech cls d H' → σ'.length = 2 → W cls d σ' H') ∧ σ[0]? = some (some (.ref f)) ∧ H c' = some (LamX.CodeO c' q) ∧ tl Ech H (fun _ H' => D.nx σ H'))
      rfl rfl (show (["_law_ask", "fault"] : List Str).Nodup by decide) rfl rfl ⟨rfl, by decide, .inl mC⟩ L2.takes0 (fun W pn xe tk _ => ?_)
      (fun a oe cls d pn hz hf => pss_one (ps_ret (pe_tup (pa_cons pe_str (pa_cons (pe_callB (cr1 a oe pn) (by rfl) G.repr boot_repr (pa_cons (pe_xf R.xf R.no hz hf (pv 1)) pa_nil)) (pa_cons (pe_callB (cr2 a oe cls d pn hz hf) (by rfl) G.isinstance boot_isinstance (pa_cons (pv 1) (pa_cons (pe_glob (v := .ref CF) (by rfl) mF rfl) pa_nil))) pa_nil)))))))
      (pss_one (ps_ret pe_non)), ?_⟩
  · refine ⟨fun pins s' σ H' D I h' => ?_⟩
    obtain ⟨Ech, hW, h1, h2, h3⟩ := h'
    exact (pss_one (ps_expr (act (fun cls d σ H => σ.length = 2 → W cls d σ H) pn xe Ech _ _ (takes_len rfl tk) fun cls d σ' H' e hl => hW cls d σ' H' e hl))).run pins s' σ H' D I ⟨h1, h2, h3⟩
  · refine ⟨_, fun cls d σ' H' he hl => ?_, rfl, hc, h⟩
    obtain ⟨dd, v, sv, rfl, rfl, hd, sh, kk⟩ := he
    refine ⟨true, exm, fun _ a ha => ?_, fun z => nomatch z⟩
    have s1 : (σ'.set 1 (some (V.ref a)))[1]? = some (some (.ref a)) := by rw [List.getElem?_set_self (by omega)]
    refine ⟨.ref a, s1, rfl, rfl, dd, _, v, rfl, hd, rfl, v, sv, rfl, sh, .ref a, s1, C, dd, .ref CF, .ref CF, true, _, rfl, rfl, R.ec, rfl, hd, fun u hu => hu, kit, by show 3 ≤ sizeLine; decide, fun p hp => kk p hp⟩
end
end K08
set_option Elab.async false
set_option linter.all false
set_option maxRecDepth 100000
set_option maxHeartbeats 4000000
namespace Pu
open PySem PySem.Spec PyProof.Rows L2 LamX
/-- all stays but what stands at P -/
def ExP (P : Addr) (H H' : Hp) : Prop := ∀ b o, b ≠ P → H b = some o → H' b = some o
section
variable {X : Cx} {pins : List (Addr × Obj)} {σ : L2.St} {H : Hp} {s : Shared}
/-- a lambda is made; of all that is known but the table at P alone is written -/
theorem lam_new {c P : Addr} {q : Str} {params : Arguments} {body : Expr} {scope : Scope} {pos : Pos} {E : Value → Shared → Prop} {Q : Value → Shared → Prop} (I : Inv X pins σ H s) (TB : LamX.TabB X.base X.mg c P) (hcode : X.env.code = .ref c) (hq : X.env.qual ++ "<lambda>" = q)
    (hT : TabS H P q) (hdef : defaultsOf params X.env = ([], [])) (hfree : ∀ y ∈ scope.names, y.2 = .free → ∃ c, X.env.cells.lookup y.1 = some c)
    (fin : ∀ (f c' : Addr) (pm ctv : Value) (H1 : Hp) (s' : Shared), Inv X pins σ H1 s' → ExP P H H1 → TabS H1 P q → s'.heap.get? f = some (PySem.W.kla_obj "<lambda>" q params body scope (cloFrom X.env.cells scope.names []) pm c' ctv) → H1 f = none → f ∉ frs X.stack → H1 c' = some (CodeO c' q) → Q (.ref f) s') :
    wpAny (model X.prog X.w) X.A (eval (.Lambda params body scope pos) X.env) Q E s := by
  subst hq
  have out : ∀ f, s.heap.objs.size ≤ f → f ∉ frs X.stack := fun f hf z => (List.mem_cons.mp (I.stkSub _ z)).elim (fun e => Nat.lt_irrefl _ (Nat.lt_of_lt_of_le (e ▸ I.lt) hf)) (I.nofs hf)
  have hT0 := hT
  obtain ⟨ps, hP, ht, ha⟩ := hT
  have bP : s.heap.BuiltinsAt X.mg P := TB.bm.keeps I.bk
  have gP : s.heap.get? P = some { cls := .none, data := .fields ps } := I.hok P _ hP
  apply PySem.W.kla_eval hdef
  rcases hc : codeAmong pos ps.toList with _ | cv
  · apply PySem.W.kla_makeFunction (mg := X.mg) (c := c) (P := P) (ps := ps) (closure_ok hfree) I.ok.glob (I.mod.glob.keeps I.bk) hcode (TB.code.keeps I.bk) gP ht hc TB.gP bP
    intro c' ctv h' tk hx hge hlt ⟨c2, oc, vs, t, e2, hoc, hd, hv⟩ htb
    cases e2
    have nC : H c' = none := I.hok.fresh hge
    have nPc : P ≠ c' := ne_of_none hP nC
    have sz : s.heap.objs.size ≤ h'.objs.size := Nat.le_trans hge (Nat.le_of_lt hlt)
    have ex : ExP P H (upd (upd H P (.tbl (ps ++ #[rawInt pos.line, rawInt pos.col, .ref c']))) c' (CodeO c' (X.env.qual ++ "<lambda>"))) := fun b o hb e => by rw [upd_ne (ne_of_none e nC), upd_ne hb]; exact e
    have J := inv_table (t' := tk) (more := #[rawInt pos.line, rawInt pos.col, .ref c']) (h' := h'.push (PySem.W.kla_obj "<lambda>" (X.env.qual ++ "<lambda>") params body scope (cloFrom X.env.cells scope.names []) ((X.mg "__name__").getD .none) c' ctv)) I hP
      (fun b o hb e => Heap.get?_push_of_some _ (hx b o hb e)) (Heap.get?_push_of_some _ htb) hge ⟨oc, vs, t, Heap.get?_push_of_some _ hoc, hd, hv⟩
    refine fin h'.objs.size c' ((X.mg "__name__").getD .none) ctv _ _ J ex ⟨_, by rw [upd_ne nPc, upd_same], ?_, fun p2 cv h2 => ?_⟩ (Heap.get?_push_size _ rfl) ?_ (out _ sz) upd_same
    · rw [Array.toList_append]
      exact PySem.TriplesOk_snoc _ _ _ _ ht
    · rw [Array.toList_append] at h2
      rcases among_app _ ht h2 with z | rfl
      · obtain ⟨c0, rfl, e2⟩ := ha p2 cv z
        exact ⟨c0, rfl, ex _ _ (fun z => by rw [z, hP] at e2; exact codeO_ne _ (Option.some.inj e2).symm) e2⟩
      · exact ⟨c', rfl, upd_same⟩
    · rw [upd_ne (Nat.ne_of_gt hlt), upd_ne (Nat.ne_of_gt (Nat.lt_of_lt_of_le (Heap.lt_size gP) sz))]
      exact I.hok.fresh sz
  · obtain ⟨c', rfl, hco⟩ := ha pos cv hc
    apply PySem.W.kla_makeFunctionHit (mg := X.mg) (c := c) (P := P) (ps := ps) (closure_ok hfree) I.ok.glob (I.mod.glob.keeps I.bk) hcode (TB.code.keeps I.bk) gP ht hc bP
    intro ctv h' tk hx sz
    exact fin h'.objs.size c' ((X.mg "__name__").getD .none) ctv H _ (I.kept (t' := tk) fun b o e => Heap.get?_push_of_some _ (hx b o e)) (fun _ _ _ e => e) hT0 (Heap.get?_push_size _ rfl) (I.hok.fresh sz) (out _ sz) hco
end
/-- the reading of f(lambda: body); TT: what f makes of the body's reading -/
def tLm (P : Addr) (q : Str) (TT : (XK → Hp → VK → Prop) → Hp → VK → Prop) (t : XK → TE) : TE := fun σ H Q => TabS H P q ∧ ∀ H1, ExP P H H1 → TabS H1 P q → TT (fun E H' Q' => t E σ H' Q') H1 Q
section
variable {X : Cx}
theorem pe_lm {TT : (XK → Hp → VK → Prop) → Hp → VK → Prop} {x a q : Str} {g c P : Addr} {k : Nat} {fd : FuncData} {st : Stmt} {Ng : List Str} {params : Arguments} {body : Expr} {scope : Scope} {t : XK → TE} {p lpos pos : Pos}
    (F : Fun X.K x x st g fd) (hg : Gl X x) (hm : X.mg x = some (.ref g)) (hb : L2.Binds X.K fd [a] []) (Sg : FnScope Ng [a] (defScope st)) (hN : Ng[0]? = some a) (hv : Vis (defScope st) a) (hG : ∀ cdv, GivesTo X Ng x (defScope st) g cdv (defBody st) a q TT)
    (TB : LamX.TabB X.base X.mg c P) (hcode : X.env.code = .ref c) (hq : X.env.qual ++ "<lambda>" = q) (hr : Room (k + 2) X.A) (L : LamS X.env.scope scope) (hdef : defaultsOf params X.env = ([], []))
    (hbind : ∀ (q : Str) (cl : List (Str × Addr)) (pm cv ctv : Value), bindArgs (PySem.W.kla_fn "<lambda>" q params body scope cl pm cv ctv) ⟨[], []⟩ = pure [])
    (hbody : ∀ (A : Around) (outer : List Env) (s : Shared) (H : Hp) (E : XK) (f c' : Addr), Room k (A.deeper (lamEnv X scope s.heap.objs.size f c')) → PE (lamCx X A outer s H E scope f c') body (t E))
    (hdb : (x == ("__debug__" : Str)) = false := by decide) (hd : (a == ("__debug__" : Str)) = false := by decide) (hcd : (a == ("__classdict__" : Str)) = false := by decide) :
    PE X (.Call (.Name x p) [.Lambda params body scope lpos] [] pos) (tLm P q TT t) := by
  obtain ⟨oc, od, kV, doc, pm, an, cdv, ct, osl, rfl, lk, hcg⟩ := F.ex
  refine ⟨fun pins s σ H Q I ⟨hT, h⟩ => wpAny_Call_Name_kw (ld_glob I hg hm (PySem.W.callWith_K (h₀ := X.base) I.ok.mod.kin F.kp ?_ (by rfl) (by rfl)) hdb)⟩
  refine Calls.spliced_cons (lam_new I TB hcode hq hT hdef (L.has I.ok) fun f c' pm' ctv H1 s' I1 eN T1 hf hfn hfr hco => Calls.spliced_nil ⟨I1.kIn, ?_⟩)
  subst hq
  have rc : codeAny (model X.prog X.w) X.A (.call (.ref g) ⟨[.ref f], []⟩) (CR C8.CX0 X.stack X.prog X.w H1 s' Q C8.E0) s' :=
    run_ofS (N := Ng) (ps := [a]) (us := [.ref f]) (vs := [.ref f]) lk hcg Sg hr I1.env0 (hb s' [.ref f] I1.kIn rfl) (.cons rfl .nil) rfl fun hr' => by
      obtain ⟨t', ht', hq'⟩ := hG cdv f c' s' H1 Q (fun E H' Q' => t E σ H' Q') (fun W pn xe E p1 p2 tk hW => pe_act (i := 0) I1 L hf hfn hfr (hbind _ _ _ _ _) tk hW hr' (fun A outer s H hr2 => hbody A outer s H E f c' hr2) hN hv hd hcd) hco (h H1 eN T1)
      exact ⟨t', ht'.nox, hq'⟩
  refine wpAny_call (codeAny_mono rc fun r s2 hq => ?_)
  rcases r with e | (u | _ | _ | _)
  · exact (show False from hq).elim
  all_goals first | exact I1.after hq | exact False.elim hq
end
end Pu
set_option Elab.async false
set_option linter.all false
set_option maxRecDepth 100000
set_option maxHeartbeats 4000000
namespace Pu
open PySem PySem.Spec PyProof.Rows L2 GxR Evl LamX
/-- the tables of code that a law and its program write: the generators', and the law's own one of lambdas -/
structure Tx where
  ts : List Addr
  p : Addr
  q : Str
structure Tx.Ok (Z : Tx) (H : Hp) : Prop where
  gs : ∀ T ∈ Z.ts, TabG H T
  lm : TabS H Z.p Z.q
/-- a step: but the tables and what stands at M all stays -/
structure Go (Z : Tx) (M : List Addr) (H H' : Hp) : Prop where
  kp : ∀ b o, b ∉ M → (∀ ps, o ≠ .tbl ps) → H b = some o → H' b = some o
  fr : ∀ b, H' b = none → H b = none
  ok : Z.Ok H'
variable {K : PySem.W.Frag} {Z : Tx} {M M' : List Addr} {H H' H1 H2 H3 : Hp} {a b p T : Addr} {xs ys : List V} {ns : List Int}
theorem Tx.Ok.ex (h : Z.Ok H) (e : Ex H H') : Z.Ok H' := ⟨fun T hT => TabG.ex (h.gs T hT) e, h.lm.ext e⟩
theorem Go.refl (h : Z.Ok H) : Go Z M H H := ⟨fun _ _ _ _ e => e, fun _ e => e, h⟩
theorem Go.trans (x : Go Z M H H1) (y : Go Z M H1 H2) : Go Z M H H2 := ⟨fun b o n m e => y.kp b o n m (x.kp b o n m e), fun b e => x.fr b (y.fr b e), y.ok⟩
theorem Go.mono (x : Go Z M H H1) (h : ∀ b ∈ M, b ∈ M') : Go Z M' H H1 := ⟨fun b o n m e => x.kp b o (fun z => n (h b z)) m e, x.fr, x.ok⟩
theorem Go.of0 (x : Go Z [] H H1) : Go Z M H H1 := x.mono fun _ h => absurd h (List.not_mem_nil)
theorem ex_fresh (e : Ex H H') {b : Addr} (h : H' b = none) : H b = none := by
  cases z : H b with
  | none => rfl
  | some o => rw [e b o z] at h; cases h
theorem Go.ex (h : Z.Ok H) (e : Ex H H') : Go Z M H H' := ⟨fun b o _ _ q => e b o q, fun b q => ex_fresh e q, h.ex e⟩
theorem Go.then (x : Go Z M H H1) (e : Ex H1 H2) : Go Z M H H2 := x.trans (Go.ex x.ok e)
theorem Go.tab (h : Z.Ok H) (hT : T ∈ Z.ts) (np : Z.p ∉ Z.ts) (t : Tabbed T H H') : Go Z M H H' := by
  have nT : Z.p ≠ T := fun z => np (z ▸ hT)
  have kp : ∀ b o, (∀ ps, o ≠ .tbl ps) → H b = some o → H' b = some o := fun b o m e => by
    rw [t.2 b (TabG.ne (h.gs T hT) e m)]
    exact e
  refine ⟨fun b o _ m e => kp b o m e, fun b e => ?_, fun S hS => ?_, ?_⟩
  · by_cases z : b = T
    · obtain ⟨ps, q, _⟩ := t.1
      rw [z, q] at e
      cases e
    · rw [← t.2 b z]; exact e
  · by_cases z : S = T
    · rw [z]; exact t.1
    · obtain ⟨ps, q, r⟩ := h.gs S hS
      exact ⟨ps, by rw [t.2 S z]; exact q, r⟩
  · obtain ⟨ps, q, r, c⟩ := h.lm
    refine ⟨ps, by rw [t.2 _ nT]; exact q, r, fun pos cv hc => ?_⟩
    obtain ⟨d, e1, e2⟩ := c pos cv hc
    exact ⟨d, e1, kp _ _ (fun ps => codeO_ne ps) e2⟩
theorem Go.lam (h : Z.Ok H) (np : Z.p ∉ Z.ts) (e : ExP Z.p H H') (t : TabS H' Z.p Z.q) : Go Z M H H' := by
  refine ⟨fun b o _ m q => e b o (fun z => ?_) q, fun b q => ?_, fun S hS => ?_, t⟩
  · obtain ⟨ps, r, _⟩ := h.lm
    rw [z, r] at q
    exact m ps (Option.some.inj q).symm
  · by_cases z : b = Z.p
    · obtain ⟨ps, r, _⟩ := t
      rw [z, r] at q
      cases q
    · cases y : H b with
      | none => rfl
      | some o => rw [e b o z y] at q; cases q
  · obtain ⟨ps, r, u⟩ := h.gs S hS
    exact ⟨ps, e _ _ (fun z => np (z ▸ hS)) r, u⟩
theorem Tx.Ok.list (h : Z.Ok H) {p : Addr} (hp : H p = some (.lst xs)) (ho : H' p = some (.lst ys)) (kp : ∀ b o, b ≠ p → H b = some o → H' b = some o) : Go Z [p] H H' := by
  refine ⟨fun b o n _ e => kp b o (fun z => n (by rw [z]; exact List.mem_singleton.mpr rfl)) e, fun b e => ?_, fun S hS => ?_, ?_⟩
  · by_cases z : b = p
    · rw [z, ho] at e; cases e
    · cases y : H b with
      | none => rfl
      | some o => rw [kp b o z y] at e; cases e
  · obtain ⟨ps, r, u⟩ := h.gs S hS
    exact ⟨ps, kp _ _ (fun z => by rw [z, hp] at r; cases r) r, u⟩
  · obtain ⟨ps, r, u, c⟩ := h.lm
    refine ⟨ps, kp _ _ (fun z => by rw [z, hp] at r; cases r) r, u, fun pos cv hc => ?_⟩
    obtain ⟨d, e1, e2⟩ := c pos cv hc
    exact ⟨d, e1, kp _ _ (fun z => by rw [z, hp] at e2; have := Option.some.inj e2; unfold CodeO at this; cases this) e2⟩
theorem Go.box (h : Z.Ok H) (hb : BoxAt H p) (e : ExB p H H') : Go Z [p] H H' := by
  obtain ⟨g, s, h1, _⟩ := hb
  obtain ⟨⟨g', s', h2, _⟩, k⟩ := e
  exact h.list h1 h2 k
/-- lists stand at M -/
def Ls (M : List Addr) (H : Hp) : Prop := ∀ m ∈ M, ∃ xs, H m = some (.lst xs)
/-- what stays so, whatever is done with M and the tables -/
def Kp (Z : Tx) (M : List Addr) (F : Hp → Prop) (H : Hp) : Prop := ∀ H', Go Z M H H' → F H'
theorem Kp.go {F : Hp → Prop} (k : Kp Z M F H) (x : Go Z M H H1) : Kp Z M F H1 := fun H2 y => k H2 (x.trans y)
theorem Kp.now {F : Hp → Prop} (k : Kp Z M F H) (h : Z.Ok H) : F H := k H (Go.refl h)
theorem Kp.imp {F G : Hp → Prop} (k : Kp Z M F H) (h : ∀ H', F H' → G H') : Kp Z M G H := fun H' x => h H' (k H' x)
theorem Kp.and {F G : Hp → Prop} (k : Kp Z M F H) (l : Kp Z M G H) : Kp Z M (fun H => F H ∧ G H) H := fun H' x => ⟨k H' x, l H' x⟩
theorem Kp.mono {F : Hp → Prop} (k : Kp Z M' F H) (h : ∀ b ∈ M, b ∈ M') : Kp Z M F H := fun H' x => k H' (x.mono h)
theorem Kp.all {α : Type} {F : α → V → Hp → Prop} {L : List α} {xs : List V} (h : Paired (fun s v => Kp Z M (F s v) H) L xs) : Kp Z M (fun H => Paired (fun s v => F s v H) L xs) H := fun H' x => Paired.mapP h fun _ _ k => k H' x
/-- another list may be bent instead, if it is new -/
theorem Kp.renew {F : Hp → Prop} {p' : Addr} (k : Kp Z [p] F H) (n : H p' = none) (e : Ex H H') : Kp Z [p'] F H' := fun H2 y =>
  k H2 ⟨fun b o _ m q => y.kp b o (fun z => by rw [List.mem_singleton.mp z, n] at q; cases q) m (e b o q), fun b q => ex_fresh e (y.fr b q), y.ok⟩
theorem kp_pure {F : Prop} (h : F) : Kp Z M (fun _ => F) H := fun _ _ => h
theorem kp_at {o : HO} (n : b ∉ M) (m : ∀ ps, o ≠ .tbl ps) (e : H b = some o) : Kp Z M (fun H => H b = some o) H := fun _ x => x.kp b o n m e
theorem kp_rd {u : HO} (n : b ∉ M) (m : ∀ ps, u ≠ .tbl ps) (e : Rd H b u) : Kp Z M (fun H => Rd H b u) H := fun H' x => by
  rcases e with e | ⟨o, e⟩
  · exact .inl (x.kp _ _ n m e)
  · exact .inr ⟨o, x.kp _ _ n (fun ps z => by cases z) e⟩
theorem kp_L (n : b ∉ M) (e : SqL K H b xs) : Kp Z M (fun H => SqL K H b xs) H := fun H' x => e.imp (fun e => kp_rd (Z := Z) n (fun ps z => by cases z) e H' x) id
theorem kp_T (l : Ls M H) (e : SqT K H b xs) : Kp Z M (fun H => SqT K H b xs) H := fun H' x => e.imp (fun e => kp_rd (Z := Z) (fun hm => by
  obtain ⟨ys, h⟩ := l b hm
  rcases e with e | ⟨o, e⟩
  · rw [h] at e; cases e
  · rw [h] at e; cases e) (fun ps z => by cases z) e H' x) id
theorem Ls.nil : Ls [] H := fun _ h => absurd h List.not_mem_nil
theorem Ls.one (h : H p = some (.lst xs)) : Ls [p] H := fun m hm => ⟨xs, by rw [List.mem_singleton.mp hm]; exact h⟩
theorem Go.ne (x : Go Z M H H') (h : H b = none) (e : H' b = none) : True := trivial
theorem Go.new {o : HO} (h : Z.Ok H) (n : H b = none) : Go Z M H (upd H b o) := Go.ex h (Ex.new n)
end Pu
set_option Elab.async false
set_option linter.all false
set_option maxRecDepth 100000
set_option maxHeartbeats 4000000
/-! Pure defs of several statements. -/
namespace Pu
open PySem PySem.Spec PyProof.Rows L2
/-- from any heap over g the expression gives what R tells, and what stood stays -/
def EVR (P : Program) (w : World) (A : Around) (env : Env) (g : Heap) (e : Expr) (R : Value → Heap → Prop) : Prop :=
  ∀ (s : Shared) (Q : Value → Shared → Prop) (E : Value → Shared → Prop), Ext g s.heap →
    (∀ u h' tk, R u h' → Ext s.heap h' → Q u { s with heap := h', toks := tk }) → wpAny (model P w) A (eval e env) Q E s
/-- a test -/
def EVT (P : Program) (w : World) (A : Around) (env : Env) (g : Heap) (e : Expr) (b : Bool) : Prop :=
  ∀ (s : Shared) (whole : Sem Value) (Q : Bool → Shared → Prop) (E : Value → Shared → Prop), whole = eval e env → Ext g s.heap →
    (∀ h' tk, Ext s.heap h' → Q b { s with heap := h', toks := tk }) → wpAny (model P w) A (isTrue e env whole) Q E s
/-- what is known stays, whatever the locals' own object becomes -/
def St (env : Env) (W : Heap → Prop) : Prop := ∀ h h', W h → (∀ b o, b ≠ env.locals → h.get? b = some o → h'.get? b = some o) → W h'
/-- statements; m the locals; W what is known of the heap -/
def ES (P : Program) (w : World) (A : Around) (env : Env) (W : Heap → Prop) (m : Str → Option Value) (l : List Stmt) (R : Value → Heap → Prop) : Prop :=
  ∀ (s : Shared) (Q : Flow → Shared → Prop) (E : Value → Shared → Prop), W s.heap → s.heap.Ns env.locals m →
    (∀ u h' tk, R u h' → W h' → Q (.ret u) { s with heap := h', toks := tk }) → wpAny (model P w) A (execs l env) Q E s
/-- targets -/
def EU (P : Program) (w : World) (A : Around) (env : Env) (W : Heap → Prop) (m : Str → Option Value) (es : List Expr) (its : List Value) (m' : Str → Option Value) : Prop :=
  ∀ (s : Shared) (Q : Unit → Shared → Prop) (E : Value → Shared → Prop), W s.heap → s.heap.Ns env.locals m →
    (∀ h' tk, W h' → h'.Ns env.locals m' → Q () { s with heap := h', toks := tk }) → wpAny (model P w) A (assignInOrder ((assignEach es env).map (·.2)) its) Q E s
/-- m with x told -/
def put (m : Str → Option Value) (x : Str) (u : Value) : Str → Option Value := fun y => if y = x then some u else m y
theorem put_eq {m : Str → Option Value} {x : Str} {u : Value} : put m x u x = some u := if_pos rfl
theorem put_ne {m : Str → Option Value} {x y : Str} {u v : Value} (h : m y = some v) (n : y ≠ x) : put m x u y = some v := (if_neg n).trans h
section
variable {P : Program} {w : World} {K : PySem.W.Frag} {mg : Str → Option Value} {base : Heap} {A : Around} {env : Env} {g : Heap} {m : Str → Option Value} {R : Value → Heap → Prop} {W : Heap → Prop}
theorem EV.r {e : Expr} {v : V} (h : EV P w A env g e v) : EVR P w A env g e (fun u _ => RelV v u) := h
theorem et_val {e : Expr} {b : Bool} (h : EV P w A env g e (.bl b)) (he : ∀ whole, isTrue e env whole = (do let v ← whole; standAt e.pos; holding [v] (truthy v)) := by intro _; rfl) : EVT P w A env g e b := fun s whole Q E hw hx hQ => by
  subst hw
  refine wpAny_isTrue_value (h s _ E hx fun u h' tk r hk => ?_) (he _)
  cases (show u = Value.bool b from r)
  exact wpAny_truthy_bool (hQ h' tk hk)
theorem et_not {e : Expr} {pos : Pos} {b : Bool} (h : EVT P w A env g e b) : EVT P w A env g (.UnaryOp .Not e pos) (!b) := fun s whole Q E hw hx hQ =>
  wpAny_isTrue_Not (h s _ _ E rfl hx fun h' tk hk => hQ h' tk hk)
theorem et_or1 {e : Expr} {pos : Pos} {b : Bool} (h : EVT P w A env g e b) : EVT P w A env g (.BoolOp .Or [e] pos) b := fun s whole Q E hw hx hQ => by
  refine wpAny_isTrue_BoolOp (wpAny_allTrue_Or_cons (h s _ _ E rfl hx fun h' tk hk => ?_))
  cases b with
  | true => exact hQ h' tk hk
  | false => exact wpAny_allTrue_Or_nil (hQ h' tk hk)
theorem et_or {a b : Expr} {rest : List Expr} {pos : Pos} {x y : Bool} (ha : EVT P w A env g a x) (hb : x = false → EVT P w A env g (.BoolOp .Or (b :: rest) pos) y) : EVT P w A env g (.BoolOp .Or (a :: b :: rest) pos) (x || y) := fun s whole Q E hw hx hQ => by
  refine wpAny_isTrue_BoolOp (wpAny_allTrue_Or_cons (ha s _ _ E rfl hx fun h' tk hk => ?_))
  cases x with
  | true => exact hQ h' tk hk
  | false =>
    have := hb rfl { s with heap := h', toks := tk } (eval (.BoolOp .Or (b :: rest) pos) env) Q E rfl (fun b o e => hk b o (hx b o e)) fun h2 t2 k2 => hQ h2 t2 fun b o e => k2 b o (hk b o e)
    rw [arm_isTrue_BoolOp] at this
    exact this
theorem et_cmpI {op : CmpOp} {a b : Expr} {pos : Pos} {i j : Int} {r : Bool} (ha : EV P w A env g a (.int i)) (hb : EV P w A env g b (.int j))
    (hc : ∀ (s : Shared) (t t' : Nat) (Q : Value → Shared → Prop) (E : Value → Shared → Prop), Q (.bool r) s → wpAny (model P w) A (compareOp op (.int i t) (.int j t')) Q E s)
    (hm : behindInMarks op b = false := by first | exact nobehind _ (by decide) (by decide) | rfl) : EVT P w A env g (.Compare a [op] [b] pos) r := fun s whole Q E hw hx hQ => by
  refine wpAny_isTrue_Compare1 (ha s _ E hx fun u h' tk ru hk => ?_) hm
  refine hb { s with heap := h', toks := tk } _ E (fun b o e => hk b o (hx b o e)) fun u2 h2 t2 r2 k2 => ?_
  obtain ⟨t, rfl⟩ := ru
  obtain ⟨t', rfl⟩ := r2
  exact hc _ _ _ _ _ (wpAny_truthy_bool (hQ h2 t2 fun b o e => k2 b o (hk b o e)))
theorem St.ex (S : St env W) {h h' : Heap} (x : W h) (k : Ext h h') : W h' := S h h' x fun b o _ e => k b o e
theorem St.over (hL : g.get? env.locals = none) : St env (fun h => Ext g h) := fun h h' x k b o e => k b o (fun z => by rw [z, hL] at e; cases e) (x b o e)
theorem St.and {V : Heap → Prop} (S : St env W) (T : St env V) : St env (fun h => W h ∧ V h) := fun h h' x k => ⟨S h h' x.1 k, T h h' x.2 k⟩
theorem es_ret {e : Expr} {pos : Pos} (S : St env W) (h : ∀ h1, W h1 → h1.Ns env.locals m → EVR P w A env h1 e R) : ES P w A env W m [.Return (some e) pos] R := fun s Q E hx hn hQ =>
  wpAny_execs_cons (wpAny_Return_some (h s.heap hx hn s _ E (fun _ _ e => e) fun u h' tk r k => hQ u h' tk r (S.ex hx k)))
theorem es_if {test : Expr} {body rest : List Stmt} {pos : Pos} {b : Bool} (S : St env W) (ht : ∀ h1, W h1 → h1.Ns env.locals m → EVT P w A env h1 test b) (hY : b = true → ES P w A env W m body R) (hn : b = false → ES P w A env W m rest R) :
    ES P w A env W m (.If test body [] pos :: rest) R := fun s Q E hx hns hQ => by
  refine wpAny_execs_cons (wpAny_If (ht s.heap hx hns s _ _ E rfl (fun _ _ e => e) fun h' tk hk => ?_))
  have hn2 := hns.keeps hk
  cases b with
  | true => exact hY rfl { s with heap := h', toks := tk } _ E (S.ex hx hk) hn2 fun u h2 t2 r k => hQ u h2 t2 r k
  | false => exact wpAny_execs_nil (hn rfl { s with heap := h', toks := tk } Q E (S.ex hx hk) hn2 fun u h2 t2 r k => hQ u h2 t2 r k)
theorem es_set {x : Str} {e : Expr} {p pos : Pos} {rest : List Stmt} {R1 : Value → Heap → Prop} (S : St env W) (hl : env.kindOf x = some .local) (hk : env.scope.kind = .function)
    (he : ∀ h1, W h1 → h1.Ns env.locals m → EVR P w A env h1 e R1) (hR : ∀ u, St env (R1 u)) (hm : ∀ u, ES P w A env (fun h => W h ∧ R1 u h) (put m x u) rest R)
    (hsw : swapsWith e (some (.Name x p)) pos.line env = pure false := by rfl) : ES P w A env W m (.Assign [.Name x p] e pos :: rest) R := fun s Q E hx hn hQ => by
  refine wpAny_execs_cons (wpAny_Assign_Name (he s.heap hx hn s _ E (fun _ _ e => e) fun u h' tk r hk2 => ?_) hsw)
  refine wpAny_storeName_local hl (hn.keeps hk2) (fun h3 ns3 same => ?_) (by rw [hk]; rfl)
  have st : ∀ b o, b ≠ env.locals → h'.get? b = some o → h3.get? b = some o := fun b o hb e => same.extBut b o hb e
  exact hm u { s with heap := h3, toks := tk + 1 } Q E ⟨S _ _ (S.ex hx hk2) st, hR u _ _ r st⟩ ns3 fun u h2 t2 r k => hQ u h2 t2 r k.1
theorem eu_nil : EU P w A env W m [] [] m := fun s Q E hx hn hQ => wpAny_assignInOrder_none (hQ s.heap s.toks hx hn)
theorem eu_cons {x : Str} {p : Pos} {es : List Expr} {u : Value} {its : List Value} {m' : Str → Option Value} (S : St env W) (hl : env.kindOf x = some .local) (hk : env.scope.kind = .function)
    (h : EU P w A env W (put m x u) es its m') (he : (assignEach (.Name x p :: es) env).map (·.2) = assign (.Name x p) env :: (assignEach es env).map (·.2) := by rfl) : EU P w A env W m (.Name x p :: es) (u :: its) m' := fun s Q E hx hn hQ => by
  rw [he]
  refine wpAny_assignInOrder_more (wpAny_assign_Name (wpAny_storeName_local hl hn (fun h' ns' same => ?_) (by rw [hk]; rfl)))
  exact h { s with heap := h', toks := s.toks + 1 } Q E (S _ _ hx fun b o hb e => same.extBut b o hb e) ns' fun h2 t2 k n => hQ h2 t2 k n
theorem es_unpack {val : Expr} {es : List Expr} {k : Nat} {p pos : Pos} {rest : List Stmt} {a : Addr} {b : Bool} {its : List Value} {m' : Str → Option Value} (S : St env W) (hd : A.handled = none)
    (hv : ∀ h1, W h1 → h1.Ns env.locals m → EV P w A env h1 val (.ref a)) (hq : ∀ h1, W h1 → SeqG h1 b a its) (hu : EU P w A env W m es its m') (hr : ES P w A env W m' rest R)
    (hn : (assignEach es env).length = its.toArray.size) (hst : (assignEach es env).findIdx? (·.1) = none := by rfl)
    (hs : swapsWithSole [.Tuple es k p] val pos.line env = pure false := by rfl) (hw : swappedStores [.Tuple es k p] val env = pure none := by rfl)
    (h1 : (assignEach [.Tuple es k p] env).map (·.2) = [assign (.Tuple es k p) env] := by rfl) : ES P w A env W m (.Assign [.Tuple es k p] val pos :: rest) R := fun s Q E hx hns hQ => by
  refine wpAny_execs_cons (wpAny_Assign_stores (hv s.heap hx hns s _ E (fun _ _ e => e) fun u h' tk r hk => ?_) hs hw)
  cases (show u = Value.ref a from r)
  rw [h1]
  have main : wpAny (model P w) A (assign (.Tuple es k p) env (.ref a)) (fun _ s3 => wpAny (model P w) A (execs rest env) Q E s3) E { s with heap := h', toks := tk } := by
    have after : ∀ h3, Heap.ExtBut h'.objs.size h' h3 → wpAny (model P w) A (assignInOrder ((assignEach es env).map (·.2)) its.toArray.toList) (fun _ s3 => wpAny (model P w) A (execs rest env) Q E s3) E { s with heap := h3, toks := tk } := fun h3 hx3 => by
      have k3 : Ext h' h3 := fun b o e => hx3 b o (Nat.ne_of_lt (Heap.lt_size e)) e
      refine hu { s with heap := h3, toks := tk } _ E (S.ex (S.ex hx hk) k3) ((hns.keeps hk).keeps k3) fun h4 t4 k4 n4 => ?_
      exact hr { s with heap := h4, toks := t4 } Q E k4 n4 fun u h2 t2 r k => hQ u h2 t2 r k
    have hq' := hq h' (S.ex hx hk)
    cases b with
    | true =>
      have t : IsTup h' a its.toArray := hq'.2
      exact wpAny_assign_Tuple (s := { s with heap := h', toks := tk }) hd t hn hst after
    | false =>
      have t : PlainL h' a its.toArray := hq'.2
      rw [PyProof.Rows.assign_Tuple]
      refine wpAny_bind (wpAny_standAt ?_)
      unfold unpack
      rw [hn, hst]
      exact wpAny_bind (wpAny_holding (PySem.W.kun_itemsOf hd t.isList after))
  exact main
/-- a pure def: what it gives is told by a relation -/
structure PFR (P : Program) (w : World) (K : PySem.W.Frag) (mg : Str → Option Value) (base : Heap) (k : Nat) (f : Addr) (fd : FuncData) (ps : List Str) (sp : List V → Heap → (Value → Heap → Prop) → Prop) : Prop where
  run : ∀ (A : Around) (s : Shared) (args : Args) (us : List Value) (vs : List V) (S : Value → Heap → Prop) (R : Result → Shared → Prop), Room k A → Ext base s.heap → BindsTo s fd args (ps.zip us) → Vals vs us → vs.length = ps.length → sp vs s.heap S →
    (∀ u h' tk, S u h' → Ext s.heap h' → R (.ok (.ret u)) { s with heap := h', toks := tk }) → codeAny (model P w) A (.call (.ref f) args) R s
theorem PFR.pf {k : Nat} {f : Addr} {fd : FuncData} {ps : List Str} {sp : List V → Heap → V → Prop} (F : PFR P w K mg base k f fd ps fun vs h S => ∃ v, sp vs h v ∧ S = fun u _ => RelV v u) : PF P w K mg base k f fd ps sp :=
  ⟨fun A s args us vs v R hr hb hbi hv hl hs hR => F.run A s args us vs _ R hr hb hbi hv hl ⟨v, hs, rfl⟩ hR⟩
/-- a pure def of the text, of several statements -/
theorem pf_body {x qual : Str} {st : Stmt} {f : Addr} {fd : FuncData} {N ps : List Str} {k : Nat} {sp : List V → Heap → (Value → Heap → Prop) → Prop} (M : L2.Mod K mg base) (Fn : Fun K x qual st f fd) (S : FnScope N ps (defScope st))
    (hloc : ∀ y ∈ ps, (defScope st).names.lookup y = some .local)
    (hbody : ∀ (cdv : Value) (A : Around) (L : Addr) (g : Heap) (us : List Value) (vs : List V) (T : Value → Heap → Prop) (m : Str → Option Value), Room k A → Ext base g → Vals vs us → vs.length = ps.length → sp vs g T → g.get? L = none →
      (∀ (i : Nat) (y : Str) (u : Value), ps[i]? = some y → us[i]? = some u → m y = some u) → ES P w A (envOfC qual (defScope st) L f cdv) (fun h => Ext g h) m (defBody st) T) : PFR P w K mg base (k + 1) f fd ps sp := by
  obtain ⟨oc, od, kV, doc, pm, an, cdv, ct, osl, rfl, lk, hcd⟩ := Fn.ex
  refine ⟨fun A s args us vs T R hr hbs hb r hl hsp hR => ?_⟩
  have KX : K.In s.heap := M.kin.keeps hbs
  have lim : s.heap.NoLimit := M.nolimit.keeps hbs
  have ndP : ps.Nodup := by rw [← S.pre]; exact S.nd.sublist (List.take_sublist _ _)
  refine codeAny_call_function hr.depth (KX _ _ lk) rfl S.co S.gen rfl (PySem.W.codeRec_of KX hcd) (hb _ _ _ _ ?_)
  refine wpAny_newFunctionEnv_cells S.kind (fun ⟨n, z⟩ hy => .inl (hloc n (List.of_mem_zip hy).1)) fun env he s1 X => ?_
  subst he
  obtain ⟨h1, tk, e1, hk1⟩ := X.done
  refine ⟨lim.keeps X.toInCall.keep, codeAny_func ?_⟩
  have hns := X.toInCall.ns
  subst e1
  have fresh : s.heap.get? s.heap.objs.size = none := by
    cases z : s.heap.get? s.heap.objs.size with
    | none => rfl
    | some o => exact absurd (Heap.lt_size z) (Nat.lt_irrefl _)
  refine hbody cdv _ s.heap.objs.size s.heap us vs T _ (hr.deeper _) hbs r hl hsp fresh (fun i y u h2 h3 => bindL_get ndP h2 h3 (hloc y (List.mem_of_getElem? h2))) _ _ _ hk1 hns fun u h' t' rv k' => ?_
  exact hR u h' t' rv k'
end
end Pu
set_option Elab.async false
set_option linter.all false
set_option maxRecDepth 100000
set_option maxHeartbeats 4000000
/-! Pure expressions, more of them. -/
namespace Pu
open PySem PySem.Spec PyProof.Rows L2
section
variable {P : Program} {w : World} {K : PySem.W.Frag} {mg : Str → Option Value} {base : Heap} {A : Around} {env : Env} {g : Heap}
/-- a name of the module -/
theorem ev_gc {x : Str} {pos : Pos} {u : Value} {v : V} (F : FrP K mg base A env g) (hg : env.kindOf x = some .globalImplicit) (hm : mg x = some u) (r : RelV v u) (hd : (x == ("__debug__" : Str)) = false := by decide) : EV P w A env g (.Name x pos) v := fun s Q E hx hQ => by
  have hbs : Ext base s.heap := fun b o e => hx b o (F.ext b o e)
  exact Calls.Name_function_global F.kind hg (Calls.loadGlobal_global (by rw [F.glob]; exact F.mod.glob.keeps hbs) hm (hQ u s.heap s.toks r fun _ _ e => e)) hd
theorem ev_neg {a : Expr} {pos : Pos} {i : Int} (ha : EV P w A env g a (.int i)) : EV P w A env g (.UnaryOp .USub a pos) (.int (-i)) := fun s Q E hx hQ => by
  refine UnaryOp_ (ha s _ E hx fun u h' tk r hk => ?_)
  obtain ⟨t, rfl⟩ := r
  exact neg_int (hQ _ h' _ ⟨_, rfl⟩ hk)
theorem ev_bin {op : Operator} {a b : Expr} {pos : Pos} {i j k : Int} (ha : EV P w A env g a (.int i)) (hb : EV P w A env g b (.int j))
    (hc : ∀ (s : Shared) (t t' : Nat) (Q : Value → Shared → Prop) (E : Value → Shared → Prop), (Q (.int k s.toks) { s with toks := s.toks + 1 }) → wpAny (model P w) A (binaryOp op (.int i t) (.int j t')) Q E s) : EV P w A env g (.BinOp a op b pos) (.int k) := fun s Q E hx hQ => by
  refine wpAny_BinOp (ha s _ E hx fun u h' tk ru hk => ?_)
  refine hb { s with heap := h', toks := tk } _ E (fun b o e => hk b o (hx b o e)) fun u2 h2 t2 r2 k2 => ?_
  obtain ⟨t, rfl⟩ := ru
  obtain ⟨t', rfl⟩ := r2
  exact hc _ _ _ _ _ (hQ _ h2 _ ⟨_, rfl⟩ fun b o e => k2 b o (hk b o e))
theorem ev_add {a b : Expr} {pos : Pos} {i j : Int} (ha : EV P w A env g a (.int i)) (hb : EV P w A env g b (.int j)) : EV P w A env g (.BinOp a .Add b pos) (.int (i + j)) := ev_bin ha hb fun _ _ _ _ _ q => add_int q
theorem ev_sub {a b : Expr} {pos : Pos} {i j : Int} (ha : EV P w A env g a (.int i)) (hb : EV P w A env g b (.int j)) : EV P w A env g (.BinOp a .Sub b pos) (.int (i - j)) := ev_bin ha hb fun _ _ _ _ _ q => sub_int q
theorem ev_mul {a b : Expr} {pos : Pos} {i j : Int} (hm : IntMulOk i j) (ha : EV P w A env g a (.int i)) (hb : EV P w A env g b (.int j)) : EV P w A env g (.BinOp a .Mult b pos) (.int (i * j)) := ev_bin ha hb fun _ _ _ _ _ q => mul_int q hm
theorem ev_and_ {a b : Expr} {pos : Pos} {i j : Int} (ha : EV P w A env g a (.int i)) (hb : EV P w A env g b (.int j)) : EV P w A env g (.BinOp a .BitAnd b pos) (.int (Builtin.bitAnd i j)) := ev_bin ha hb fun _ _ _ _ _ q => and_int q
theorem ev_gt {a b : Expr} {pos : Pos} {i j : Int} (ha : EV P w A env g a (.int i)) (hb : EV P w A env g b (.int j)) (hm : behindInMarks .Gt b = false := by first | exact nobehind _ (by decide) (by decide) | rfl) :
    EV P w A env g (.Compare a [.Gt] [b] pos) (.bl (decide (i > j))) := fun s Q E hx hQ => by
  refine wpAny_Compare1 (ha s _ E hx fun u h' tk r hk => ?_) hm
  refine hb { s with heap := h', toks := tk } _ E (fun b o e => hk b o (hx b o e)) fun u2 h2 t2 r2 k2 => ?_
  obtain ⟨t, rfl⟩ := r
  obtain ⟨t', rfl⟩ := r2
  exact gt_int (hQ _ h2 t2 rfl fun b o e => k2 b o (hk b o e))
/-- i <= j <= k -/
theorem ev_chain {a b c : Expr} {pos : Pos} {i j k : Int} (ha : EV P w A env g a (.int i)) (hb : EV P w A env g b (.int j)) (hc : EV P w A env g c (.int k))
    (hm : lastMarks [CmpOp.LtE, .LtE] [b, c] = false := by with_unfolding_all rfl) : EV P w A env g (.Compare a [.LtE, .LtE] [b, c] pos) (.bl (decide (i ≤ j) && decide (j ≤ k))) := fun s Q E hx hQ => by
  refine Compare_chain (ha s _ E hx fun u h' tk r hk => chain_link (hb { s with heap := h', toks := tk } _ E (fun b o e => hk b o (hx b o e)) fun u2 h2 t2 r2 k2 => ?_)) hm
  obtain ⟨t, rfl⟩ := r
  obtain ⟨t', rfl⟩ := r2
  refine le_int (wpAny_truthy_bool ?_)
  have k3 : Ext s.heap h2 := fun b o e => k2 b o (hk b o e)
  cases hd : decide (i ≤ j) with
  | false =>
    rw [hd] at hQ
    exact ite_ff (hQ _ h2 t2 rfl k3)
  | true =>
    rw [hd] at hQ
    refine ite_tt (chain_last (hc { s with heap := h2, toks := t2 } _ E (fun b o e => k3 b o (hx b o e)) fun u4 h4 t4 r4 k4 => ?_))
    obtain ⟨t5, rfl⟩ := r4
    exact le_int (hQ _ h4 t4 rfl fun b o e => k4 b o (k3 b o e))
/-- x if c else y, told by a relation -/
theorem er_if {t a b : Expr} {pos : Pos} {c : Bool} {R : Value → Heap → Prop} (ht : EVT P w A env g t c) (ha : c = true → EVR P w A env g a R) (hb : c = false → EVR P w A env g b R) : EVR P w A env g (.IfExp t a b pos) R := fun s Q E hx hQ => by
  refine wpAny_IfExp (ht s _ _ E rfl hx fun h' tk hk => ?_)
  cases c with
  | true => exact ite_tt (ha rfl { s with heap := h', toks := tk } Q E (fun b o e => hk b o (hx b o e)) fun u h2 t2 r k => hQ u h2 t2 r fun b o e => k b o (hk b o e))
  | false => exact ite_ff (hb rfl { s with heap := h', toks := tk } Q E (fun b o e => hk b o (hx b o e)) fun u h2 t2 r k => hQ u h2 t2 r fun b o e => k b o (hk b o e))
theorem EVR.imp {e : Expr} {R S : Value → Heap → Prop} (h : EVR P w A env g e R) (k : ∀ u h, R u h → S u h) : EVR P w A env g e S := fun s Q E hx hQ => h s Q E hx fun u h' tk r => hQ u h' tk (k u h' r)
/-- a tuple laid anew -/
def TupR (vs : List V) (u : Value) (h : Heap) : Prop := ∃ a us, u = .ref a ∧ Vals vs us ∧ SeqG h true a us
theorem er_tup {es : List Expr} {k : Nat} {pos : Pos} {vs : List V} (ha : EA P w A env g es vs) (hl : vs.length ≤ 1000) : EVR P w A env g (.Tuple es k pos) (TupR vs) := fun s Q E hx hQ => by
  refine wpAny_Tuple_spliced (ha pos s _ E hx fun us h' tk r hk => ⟨?_, ?_⟩)
  · rw [← r.length]
    exact Nat.le_trans hl (by decide)
  · refine hQ _ (h'.push { cls := .type "tuple", data := .seq us.toArray }) tk ⟨_, us, rfl, r, ?_, ?_⟩ fun b o e => Heap.get?_push_of_some _ (hk b o e)
    · rw [← r.length]
      exact Nat.le_trans hl (by decide)
    · exact ⟨_, Heap.get?_push_size _ rfl, rfl, _, rfl⟩
/-- sum(x) of a tuple of whole numbers -/
theorem sum_tup {s : Shared} {a : Addr} {us : List Value} {val : Nat → Int} {Q : Value → Shared → Prop} {E : Value → Shared → Prop} (hh : A.handled = none) (p : IsTup s.heap a us.toArray) (hi : ∀ (i : Nat) (v : Value), us[i]? = some v → ∃ t, v = Value.int (val i) t)
    (h : ∀ h' tk t', Ext s.heap h' → Q (.int (preSum val us.length) t') { s with heap := h', toks := tk }) : wpAny (model P w) A (call (.builtin "sum") [.ref a]) Q E s := by
  have lt : a < s.heap.objs.size := p.lt
  have hne : a ≠ s.heap.objs.size := Nat.ne_of_lt lt
  refine call_sum_walkG (wpAny_pyIter_tuple (show s.heap.IsTuple a us.toArray from p) ?_)
  refine ⟨_, _, _, _, _, _, val, rfl, Walks.tuple (show A.in1.handled = none from hh) s.heap.objs.size a hne us.toArray, ⟨⟨_, Heap.get?_push_size _ rfl, rfl, rfl⟩, ?_⟩, ?_, fun i v e => hi i v (by simpa using e), fun h' tk t' hk => ?_⟩
  · obtain ⟨o, ho, r⟩ := p
    exact ⟨o, Heap.get?_push_of_some _ ho, r⟩
  · intro b hb
    rw [Heap.size_push]
    rcases List.mem_cons.mp hb with z | z
    · rw [z]; exact Nat.lt_succ_self _
    · rcases List.mem_cons.mp z with z | z
      · rw [z]; exact Nat.lt_succ_of_lt lt
      · cases z
  · have := h h' tk t' fun b o e => hk b o (fun z => Nat.ne_of_lt (Heap.lt_size e) (List.mem_singleton.mp z)) (Heap.get?_push_of_some _ e)
    simpa using this
end
end Pu
set_option Elab.async false
set_option linter.all false
set_option maxRecDepth 100000
set_option maxHeartbeats 4000000
namespace Pu
open PySem PySem.Spec PyProof.Rows L2
/-- arguments, told by a relation -/
def EAR (P : Program) (w : World) (A : Around) (env : Env) (g : Heap) (es : List Expr) (R : List Value → Heap → Prop) : Prop :=
  ∀ (pos : Pos) (s : Shared) (Q : List Value → Shared → Prop) (E : Value → Shared → Prop), Ext g s.heap →
    (∀ us h' tk, R us h' → Ext s.heap h' → Q us { s with heap := h', toks := tk }) → wpAny (model P w) A (spliced (backTo pos (starEach es env))) Q E s
section
variable {P : Program} {w : World} {K : PySem.W.Frag} {mg : Str → Option Value} {base : Heap} {A : Around} {env : Env} {g : Heap}
theorem EV.to {e : Expr} {v v' : V} (h : EV P w A env g e v) (z : v = v') : EV P w A env g e v' := z ▸ h
theorem ar_last {e : Expr} {R : Value → Heap → Prop} (ha : EVR P w A env g e R) (hs : starEach [e] env = (false, eval e env) :: starEach [] env := by rfl) : EAR P w A env g [e] (fun us h => ∃ u, us = [u] ∧ R u h) := fun pos s Q E hx hQ => by
  rw [hs]
  show wpAny _ _ (spliced ((false, eval e env) :: backTo pos (starEach [] env))) _ _ s
  exact Calls.spliced_cons (ha s _ E hx fun u h' tk r hk => Calls.spliced_nil (hQ [u] h' tk ⟨u, rfl, r⟩ hk))
theorem ar_ea {es : List Expr} {vs : List V} (h : EA P w A env g es vs) : EAR P w A env g es (fun us _ => Vals vs us) := h
theorem ar_cons {e : Expr} {es : List Expr} {v : V} {R : List Value → Heap → Prop} (ha : EV P w A env g e v) (hr : EAR P w A env g es R) (hs : starEach (e :: es) env = (false, eval e env) :: starEach es env := by rfl) :
    EAR P w A env g (e :: es) (fun us h => ∃ u us', us = u :: us' ∧ RelV v u ∧ R us' h) := fun pos s Q E hx hQ => by
  rw [hs]
  show wpAny _ _ (spliced ((false, eval e env) :: backTo pos (starEach es env))) _ _ s
  refine Calls.spliced_cons (ha s _ E hx fun u h' tk r hk => ?_)
  exact hr pos { s with heap := h', toks := tk } _ E (fun b o e => hk b o (hx b o e)) fun us h2 t2 r2 k2 => hQ (u :: us) h2 t2 ⟨u, us, rfl, r, r2⟩ fun b o e => k2 b o (hk b o e)
/-- a pure def by its name, its answer told by a relation -/
theorem er_pf {k : Nat} {f : Addr} {fd : FuncData} {ps : List Str} {sp : List V → Heap → (Value → Heap → Prop) → Prop} {x : Str} {p pos : Pos} {e : Expr} {es : List Expr} {RA : List Value → Heap → Prop} {S : Value → Heap → Prop} (F : FrP K mg base A env g) (G : PFR P w K mg base k f fd ps sp) (hr : Room k A)
    (hg : env.kindOf x = some .globalImplicit) (hm : mg x = some (.ref f)) (hk : PySem.W.keepIn K (.ref f) = true) (hb : Binds K fd ps []) (ha : EAR P w A env g (e :: es) RA)
    (hsp : ∀ us h, Ext g h → RA us h → ∃ vs, Vals vs us ∧ vs.length = ps.length ∧ sp vs h S) (hd : (x == ("__debug__" : Str)) = false := by decide)
    (he : starEach (e :: es) env = (false, eval e env) :: starEach es env := by rfl) (hpl : (backTo pos (starEach es env)).any (·.1) = false := by rfl) : EVR P w A env g (.Call (.Name x p) (e :: es) [] pos) S := fun s Q E hx hQ => by
  have hbs : Ext base s.heap := fun b o e => hx b o (F.ext b o e)
  refine wpAny_Call_Name_kw (Calls.Name_function_global F.kind hg (Calls.loadGlobal_global (by rw [F.glob]; exact F.mod.glob.keeps hbs) hm ?_) hd)
  refine PySem.W.callWith_K (h₀ := base) F.mod.kin hk (ha pos s _ E hx fun us h' tk r hk2 => ?_) he hpl
  have hx2 : Ext g h' := fun b o e => hk2 b o (hx b o e)
  have hb2 : Ext base h' := fun b o e => hx2 b o (F.ext b o e)
  obtain ⟨vs, rv, hl, hs⟩ := hsp us h' hx2 r
  refine ⟨F.mod.kin.keeps hb2, ?_⟩
  show wpAny _ _ (call (.ref f) us) _ _ _
  have hlu : (us ++ []).length = ps.length := by rw [List.append_nil, ← rv.length]; exact hl
  have hbind := hb { s with heap := h', toks := tk } us (F.mod.kin.keeps hb2) hlu
  rw [List.append_nil] at hbind
  refine wpAny_call (codeAny_mono (G.run A { s with heap := h', toks := tk } ⟨us, []⟩ us vs S (fun r s' => ∃ u h2 t2, r = .ok (.ret u) ∧ S u h2 ∧ Ext h' h2 ∧ s' = { s with heap := h2, toks := t2 }) hr hb2 hbind rv hl hs fun u h2 t2 r2 k2 => ⟨u, h2, t2, rfl, r2, k2, rfl⟩) fun r s' hq => ?_)
  obtain ⟨u, h2, t2, rfl, r2, k2, rfl⟩ := hq
  exact hQ u h2 t2 r2 fun b o e => k2 b o (hk2 b o e)
end
end Pu
namespace Pu
open PySem PySem.Spec PyProof.Rows L2
section
variable {P : Program} {w : World} {K : PySem.W.Frag} {mg : Str → Option Value} {base : Heap} {A : Around} {env : Env} {g : Heap}
theorem ev_bl {b : Bool} {k : Nat} {pos : Pos} : EV P w A env g (.Constant (.bool b) k pos) (.bl b) := fun s Q E hx hQ => wpAny_Constant_bool (hQ _ s.heap s.toks rfl fun _ _ e => e)
/-- x is not None, x a tuple or a list -/
theorem ev_isNot {e : Expr} {pos p2 : Pos} {k : Nat} {a : Addr} (he : EV P w A env g e (.ref a)) : EV P w A env g (.Compare e [.IsNot] [.Constant .none k p2] pos) (.bl true) := fun s Q E hx hQ => by
  refine wpAny_Compare1 (he s _ E hx fun u h' tk r hk => wpAny_Constant_none ?_) (nobehind _ (by decide) (by decide))
  cases (show u = Value.ref a from r)
  exact wpAny_isNot_other rfl (fun z => nomatch z) (hQ _ h' tk rfl hk)
/-- name = value, what is known of the value sharpened by where the locals stand -/
theorem es_set2 {m : Str → Option Value} {R : Value → Heap → Prop} {W : Heap → Prop} {x : Str} {e : Expr} {p pos : Pos} {rest : List Stmt} {R1 R2 : Value → Heap → Prop} (S : St env W) (hl : env.kindOf x = some .local) (hk : env.scope.kind = .function)
    (he : ∀ h1, W h1 → h1.Ns env.locals m → EVR P w A env h1 e R1) (h2 : ∀ u h m', R1 u h → h.Ns env.locals m' → R2 u h) (hR : ∀ u, St env (R2 u)) (hm : ∀ u, ES P w A env (fun h => W h ∧ R2 u h) (put m x u) rest R)
    (hsw : swapsWith e (some (.Name x p)) pos.line env = pure false := by rfl) : ES P w A env W m (.Assign [.Name x p] e pos :: rest) R := fun s Q E hx hn hQ => by
  refine wpAny_execs_cons (wpAny_Assign_Name (he s.heap hx hn s _ E (fun _ _ e => e) fun u h' tk r hk2 => ?_) hsw)
  have r2 := h2 u h' m r (hn.keeps hk2)
  refine wpAny_storeName_local hl (hn.keeps hk2) (fun h3 ns3 same => ?_) (by rw [hk]; rfl)
  have st : ∀ b o, b ≠ env.locals → h'.get? b = some o → h3.get? b = some o := fun b o hb e => same.extBut b o hb e
  exact hm u { s with heap := h3, toks := tk + 1 } Q E ⟨S _ _ (S.ex hx hk2) st, hR u _ _ r2 st⟩ ns3 fun u h2 t2 r k => hQ u h2 t2 r k.1
/-- a tuple that stands elsewhere than the locals -/
def TupN (L : Addr) (vs : List V) (u : Value) (h : Heap) : Prop := ∃ a us, u = .ref a ∧ a ≠ L ∧ Vals vs us ∧ SeqG h true a us
theorem TupR.n {vs : List V} {u : Value} {h : Heap} {L : Addr} {m : Str → Option Value} (x : TupR vs u h) (n : h.Ns L m) : TupN L vs u h := by
  obtain ⟨a, us, rfl, v, sq⟩ := x
  refine ⟨a, us, rfl, fun z => ?_, v, sq⟩
  obtain ⟨o, ho, q1, n1, q2⟩ := (show IsTup h a us.toArray from sq.2)
  subst z
  obtain ⟨o', es, ep, ho', hd', _⟩ := n
  rw [ho] at ho'
  cases ho'
  rw [q2] at hd'
  cases hd'
theorem TupN.st {vs : List V} {u : Value} : St env (TupN env.locals vs u) := fun h h' x k => by
  obtain ⟨a, us, rfl, na, v, sq⟩ := x
  obtain ⟨o, ho, r⟩ := (show IsTup h a us.toArray from sq.2)
  exact ⟨a, us, rfl, na, v, sq.1, o, k _ _ na ho, r⟩
end
end Pu
set_option Elab.async false
set_option linter.all false
set_option maxRecDepth 100000
set_option maxHeartbeats 4000000
namespace K08
open PySem PySem.Spec PyProof.Rows L2 GxR Pu Evl
theorem scIsReading : FnScope ["value"] ["value"] (defScope sIsReading) := ⟨rfl, rfl, rfl, by decide +kernel, rfl, by decide +kernel, by decide +kernel⟩
theorem scIsSize : FnScope ["value"] ["value"] (defScope sIsSize) := ⟨rfl, rfl, rfl, by decide +kernel, rfl, by decide +kernel, by decide +kernel⟩
theorem scSumsWith : FnScope ["many", "low", "high", "needs", "others"] ["many", "low", "high", "needs"] (defScope sSumsWith) := ⟨rfl, rfl, rfl, by decide +kernel, rfl, by decide +kernel, by decide +kernel⟩
theorem scEndsOf : FnScope ["low", "high"] ["low", "high"] (defScope sEndsOf) := ⟨rfl, rfl, rfl, by decide +kernel, rfl, by decide +kernel, by decide +kernel⟩
theorem scIsSpan : FnScope ["value", "first", "many", "whole", "low", "high", "sums"] ["value"] (defScope sIsSpan) := ⟨rfl, rfl, rfl, by decide +kernel, rfl, by decide +kernel, by decide +kernel⟩
/-- the module's number -/
def Mv (mg : Str → Option Value) : Prop := ∃ u, mg "MOST_VALUE" = some u ∧ RelV (.int 1000000) u
def readB : V → Bool
  | .int i => decide (-1000000 ≤ i) && decide (i ≤ 1000000)
  | _ => false
def sizeB : V → Bool
  | .int i => decide (i ≥ 0) && (decide (i > 0) && (Builtin.bitAnd i (i - 1) == 0))
  | _ => false
def intB : V → Bool
  | .int _ => true
  | _ => false
def pReading : List V → Heap → V → Prop := fun vs g v => ∃ x t, vs = [x] ∧ TyG g x t ∧ v = .bl (readB x)
def pSize : List V → Heap → V → Prop := fun vs g v => ∃ x t, vs = [x] ∧ TyG g x t ∧ v = .bl (sizeB x)
theorem pow_and (i : Nat) : Builtin.bitAnd ((2 ^ i : Nat) : Int) (((2 ^ i : Nat) : Int) - 1) = 0 := by
  have p : 0 < 2 ^ i := Nat.two_pow_pos i
  have e : (((2 ^ i : Nat) : Int) - 1) = ((2 ^ i - 1 : Nat) : Int) := by omega
  rw [e]
  unfold Builtin.bitAnd
  rw [decide_eq_true (by omega), decide_eq_true (by omega)]
  show (((((2 ^ i : Nat) : Int).toNat &&& ((2 ^ i - 1 : Nat) : Int).toNat : Nat) : Nat) : Int) = 0
  rw [Int.toNat_natCast, Int.toNat_natCast, Nat.and_two_pow_sub_one_eq_mod, Nat.mod_self]
  rfl
section
variable {P : Program} {w : World} {K : PySem.W.Frag} {mg : Str → Option Value} {base : Heap}
theorem ty_int {g : Heap} {x : V} {t : String} (ty : TyG g x t) : (t == "int") = intB x := by
  cases ty <;> first | rfl | decide
theorem pf_is_reading {f f1 : Addr} {fd fd1 : FuncData} (M : L2.Mod K mg base) (G : Mg mg) (V' : Mv mg) (F : Fun K "is_reading" "is_reading" sIsReading f fd) (F1 : Fns K mg "is_integer" ["value"] sIsInteger f1 fd1) : PF P w K mg base 2 f fd ["value"] pReading := by
  have G1 : PF P w K mg base 1 f1 fd1 ["value"] pInteger := pf_is_integer M G F1.fn
  obtain ⟨um, em, rm⟩ := V'
  refine pf_ret M F scIsReading rfl (by decide +kernel) (fun cdv A L g us vs v hr hx r hl h hn => ?_) fun vs g h v e q => ?_
  · obtain ⟨x, t, rfl, ty, rfl⟩ := h
    obtain ⟨u, rfl, ru⟩ := vals1 r
    obtain ⟨m, ns, hm⟩ := hn 0 "value" u rfl rfl
    have FR : FrP K mg base A (envOfC "is_reading" (defScope sIsReading) L f cdv) g := ⟨M, hx, rfl, rfl, rfl, hr.hd⟩
    have val : ∀ {pos : Pos}, EV P w A (envOfC "is_reading" (defScope sIsReading) L f cdv) g (.Name "value" pos) x := ev_loc FR rfl ns hm ru
    have one : ∀ {p q pos : Pos}, EV P w A (envOfC "is_reading" (defScope sIsReading) L f cdv) g (.Call (.Name "is_integer" p) [.Name "value" q] [] pos) (.bl (intB x)) := fun {p q pos} =>
      ev_pf FR G1 hr rfl F1.mg F1.fn.kp F1.bd (ea_cons val ea_nil) rfl fun h e => ⟨x, t, rfl, ty.mono e, by rw [ty_int ty]⟩
    cases x with
    | int i => exact ev_and (x := true) one fun _ => ev_one (ev_chain (ev_neg (ev_gc FR rfl em rm)) val (ev_gc FR rfl em rm))
    | _ => exact ev_and (x := false) (y := false) one fun h => nomatch h
  · obtain ⟨x, t, h1, h2, h3⟩ := q
    exact ⟨x, t, h1, h2.mono e, h3⟩
theorem pf_is_size {f f1 f2 : Addr} {fd fd1 fd2 : FuncData} (M : L2.Mod K mg base) (G : Mg mg) (F : Fun K "is_size" "is_size" sIsSize f fd) (F1 : Fns K mg "is_number" ["value"] sIsNumber f1 fd1) (F2 : Fns K mg "is_integer" ["value"] sIsInteger f2 fd2) : PF P w K mg base 3 f fd ["value"] pSize := by
  have G1 : PF P w K mg base 2 f1 fd1 ["value"] pNumber := pf_is_number M G F1.fn F2.fn F2.bd F2.mg
  refine pf_ret M F scIsSize rfl (by decide +kernel) (fun cdv A L g us vs v hr hx r hl h hn => ?_) fun vs g h v e q => ?_
  · obtain ⟨x, t, rfl, ty, rfl⟩ := h
    obtain ⟨u, rfl, ru⟩ := vals1 r
    obtain ⟨m, ns, hm⟩ := hn 0 "value" u rfl rfl
    have FR : FrP K mg base A (envOfC "is_size" (defScope sIsSize) L f cdv) g := ⟨M, hx, rfl, rfl, rfl, hr.hd⟩
    have val : ∀ {pos : Pos}, EV P w A (envOfC "is_size" (defScope sIsSize) L f cdv) g (.Name "value" pos) x := ev_loc FR rfl ns hm ru
    have one : ∀ {p q pos : Pos}, EV P w A (envOfC "is_size" (defScope sIsSize) L f cdv) g (.Call (.Name "is_number" p) [.Name "value" q] [] pos) (.bl (isNum x)) := fun {p q pos} =>
      ev_pf FR G1 hr rfl F1.mg F1.fn.kp F1.bd (ea_cons val ea_nil) rfl fun h e => ⟨x, t, rfl, ty.mono e, rfl⟩
    cases x with
    | int i => exact ev_and (x := decide (i ≥ 0)) one fun _ => ev_and (x := decide (i > 0)) (ev_gt val ev_int) fun _ => ev_one (ev_eqI (ev_and_ val (ev_sub val ev_int)) ev_int)
    | _ => exact ev_and (x := false) (y := false) one fun h => nomatch h
  · obtain ⟨x, t, h1, h2, h3⟩ := q
    exact ⟨x, t, h1, h2.mono e, h3⟩
def spEnds : List V → Heap → (Value → Heap → Prop) → Prop := fun vs g S => ∃ i j : Int, vs = [.int i, .int j] ∧ S = TupR (if i = j then [.int i] else [.int i, .int j])
theorem pf_ends {f : Addr} {fd : FuncData} (M : L2.Mod K mg base) (F : Fun K "ends_of" "ends_of" sEndsOf f fd) : PFR P w K mg base 1 f fd ["low", "high"] spEnds := by
  refine pf_body M F scEndsOf (by decide +kernel) fun cdv A L g us vs T m hr hx r hl h hL hn => ?_
  obtain ⟨i, j, rfl, rfl⟩ := h
  obtain ⟨u1, u2, rfl, r1, r2⟩ := vals2 r
  have S := St.over (env := envOfC "ends_of" (defScope sEndsOf) L f cdv) hL
  refine es_ret S fun h1 e1 n1 => ?_
  have FR : FrP K mg base A (envOfC "ends_of" (defScope sEndsOf) L f cdv) h1 := ⟨M, fun b o e => e1 b o (hx b o e), rfl, rfl, rfl, hr.hd⟩
  have lo : ∀ {pos : Pos}, EV P w A (envOfC "ends_of" (defScope sEndsOf) L f cdv) h1 (.Name "low" pos) (.int i) := ev_loc FR rfl n1 (hn 0 "low" u1 rfl rfl) r1
  have hi : ∀ {pos : Pos}, EV P w A (envOfC "ends_of" (defScope sEndsOf) L f cdv) h1 (.Name "high" pos) (.int j) := ev_loc FR rfl n1 (hn 1 "high" u2 rfl rfl) r2
  refine er_if (c := decide (i = j)) (et_cmpI lo hi fun _ _ _ _ _ q => eq_int (by rw [Bool.beq_eq_decide_eq]; exact q)) (fun z => ?_) fun z => ?_
  · rw [if_pos (of_decide_eq_true z)]
    exact er_tup (ea_cons lo ea_nil) (by show 1 ≤ 1000; decide)
  · rw [if_neg (of_decide_eq_false z)]
    exact er_tup (ea_cons lo (ea_cons hi ea_nil)) (by show 2 ≤ 1000; decide)
end
end K08
namespace K08
open PySem PySem.Spec PyProof.Rows L2 GxR Pu Evl
def tot (ks : List Int) : Int := preSum (fun i => ks.getD i 0) ks.length
def sumsR (n : Nat) (lo hi : Int) (ks : List Int) : Value → Heap → Prop := if ks.length ≤ n then TupR [.int (tot ks + ((n : Int) - ks.length) * lo), .int (tot ks + ((n : Int) - ks.length) * hi)] else fun u _ => RelV .non u
def spSums : List V → Heap → (Value → Heap → Prop) → Prop := fun vs g S => ∃ (n : Nat) (lo hi : Int) (a : Addr) (ks : List Int) (us : List Value), vs = [.int (n : Int), .int lo, .int hi, .ref a] ∧ SeqG g true a us ∧ Vals (ks.map V.int) us ∧ ks.length ≤ 1000000 ∧ n ≤ 1000000 ∧
  S = sumsR n lo hi ks
theorem ev_non {P : Program} {w : World} {A : Around} {env : Env} {g : Heap} {k : Nat} {pos : Pos} : EV P w A env g (.Constant .none k pos) .non := fun s Q E hx hQ => wpAny_Constant_none (hQ _ s.heap s.toks rfl fun _ _ e => e)
section
variable {P : Program} {w : World} {K : PySem.W.Frag} {mg : Str → Option Value} {base : Heap}
theorem pf_sums {f : Addr} {fd : FuncData} (M : L2.Mod K mg base) (G : Mg mg) (hsum : mg "sum" = none) (F : Fun K "sums_with" "sums_with" sSumsWith f fd) : PFR P w K mg base 1 f fd ["many", "low", "high", "needs"] spSums := by
  refine pf_body M F scSumsWith (by decide +kernel) fun cdv A L g us vs T m hr hx r hl h hL hn => ?_
  obtain ⟨n, lo, hi, a, ks, ws, rfl, sq, vk, hk, hn9, rfl⟩ := h
  obtain ⟨u1, t1, rfl, r1, q1⟩ : ∃ u1 t1, us = u1 :: t1 ∧ RelV (.int (n : Int)) u1 ∧ Vals [V.int lo, V.int hi, V.ref a] t1 := by cases r with | cons a b => exact ⟨_, _, rfl, a, b⟩
  obtain ⟨u2, t2, rfl, r2, q2⟩ : ∃ u1 t, t1 = u1 :: t ∧ RelV (.int lo) u1 ∧ Vals [V.int hi, V.ref a] t := by cases q1 with | cons a b => exact ⟨_, _, rfl, a, b⟩
  obtain ⟨u3, u4, rfl, r3, r4⟩ := vals2 q2
  have S := St.over (env := envOfC "sums_with" (defScope sSumsWith) L f cdv) hL
  have kl : ws.length = ks.length := by rw [← vk.length, List.length_map]
  refine es_set (R1 := fun u _ => RelV (.int ((n : Int) - ks.length)) u) S rfl rfl (fun h1 e1 n1 => ?_) (fun u h h' x _ => x) fun u => ?_
  · have FR : FrP K mg base A (envOfC "sums_with" (defScope sSumsWith) L f cdv) h1 := ⟨M, fun b o e => e1 b o (hx b o e), rfl, rfl, rfl, hr.hd⟩
    refine EV.r (EV.to (ev_sub (ev_loc FR rfl n1 (hn 0 "many" u1 rfl rfl) r1) (ev_len FR rfl G.len (ev_loc FR rfl n1 (hn 3 "needs" u4 rfl rfl) r4) (sq.mono e1))) (by rw [kl]))
  have S2 : St (envOfC "sums_with" (defScope sSumsWith) L f cdv) (fun h => Ext g h ∧ RelV (.int ((n : Int) - ks.length)) u) := S.and fun h h' x _ => x
  refine es_if (b := decide ((n : Int) - ks.length < 0)) S2 (fun h1 e1 n1 => ?_) (fun z => es_ret S2 fun h1 e1 n1 => ?_) fun z => es_ret S2 fun h1 e1 n1 => ?_
  · have FR : FrP K mg base A (envOfC "sums_with" (defScope sSumsWith) L f cdv) h1 := ⟨M, fun b o e => e1.1 b o (hx b o e), rfl, rfl, rfl, hr.hd⟩
    refine et_cmpI (i := (n : Int) - ks.length) (j := 0) (ev_loc FR rfl n1 put_eq e1.2) ev_int fun _ _ _ _ _ q => lt_int ?_
    exact q
  · have hn0 := of_decide_eq_true z
    unfold sumsR
    rw [if_neg (show ¬ ks.length ≤ n by omega)]
    exact EV.r ev_non
  · have hn0 : ks.length ≤ n := by have := of_decide_eq_false z; omega
    unfold sumsR
    rw [if_pos hn0]
    have FR : FrP K mg base A (envOfC "sums_with" (defScope sSumsWith) L f cdv) h1 := ⟨M, fun b o e => e1.1 b o (hx b o e), rfl, rfl, rfl, hr.hd⟩
    have oth : ∀ {pos : Pos}, EV P w A (envOfC "sums_with" (defScope sSumsWith) L f cdv) h1 (.Name "others" pos) (.int ((n : Int) - ks.length)) := ev_loc FR rfl n1 put_eq e1.2
    have nd : ∀ {pos : Pos}, EV P w A (envOfC "sums_with" (defScope sSumsWith) L f cdv) h1 (.Name "needs" pos) (.ref a) := ev_loc FR rfl n1 (put_ne (hn 3 "needs" u4 rfl rfl) (by decide)) r4
    have sm : ∀ {p q pos : Pos}, EV P w A (envOfC "sums_with" (defScope sSumsWith) L f cdv) h1 (.Call (.Name "sum" p) [.Name "needs" q] [] pos) (.int (tot ks)) := fun {p q pos} => by
      refine ev_bltcall (id := "sum") (vs := [.ref a]) FR rfl hsum (by decide +kernel) (ea_cons nd ea_nil) (fun s us Q E hx2 r hQ => ?_)
      obtain ⟨u, rfl, ru⟩ := vals1 r
      cases (show u = Value.ref a from ru)
      refine sum_tup (val := fun i => ks.getD i 0) hr.hd (show IsTup s.heap a ws.toArray from ((sq.mono e1.1).mono hx2).2) (fun i v hv => ?_) fun h' tk t' hk' => ?_
      · have li : i < ks.length := by rw [← kl]; exact (List.getElem?_eq_some_iff.mp hv).1
        obtain ⟨v', hv', rv⟩ := vk.get (i := i) (by rw [List.getElem?_map, List.getElem?_eq_getElem li]; rfl)
        cases Option.some.inj (hv'.symm.trans hv)
        obtain ⟨t, rfl⟩ := rv
        exact ⟨t, by rw [List.getD_eq_getElem?_getD, List.getElem?_eq_getElem li]; rfl⟩
      · rw [kl]
        exact hQ _ h' tk ⟨t', rfl⟩ hk'
    have mk : ∀ x : Int, IntMulOk ((n : Int) - ks.length) x := fun x => CMul.ok (.inl ⟨by omega, by omega⟩)
    refine er_tup (ea_cons (ev_add sm (ev_mul (mk _) oth (ev_loc FR rfl n1 (put_ne (hn 1 "low" u2 rfl rfl) (by decide)) r2))) (ea_cons (ev_add sm (ev_mul (mk _) oth (ev_loc FR rfl n1 (put_ne (hn 2 "high" u3 rfl rfl) (by decide)) r3))) ea_nil)) (by show 2 ≤ 1000; decide)
end
end K08
set_option Elab.async false
set_option linter.all false
set_option maxRecDepth 100000
set_option maxHeartbeats 4000000
namespace K08
open PySem PySem.Spec PyProof.Rows L2 GxR Pu Evl
def ends (lo hi : Int) : List Int := if lo = hi then [lo] else [lo, hi]
def sumB (n : Nat) (w lo hi : Int) : Bool := decide ((ends lo hi).length ≤ n) && (decide (tot (ends lo hi) + ((n : Int) - (ends lo hi).length) * lo ≤ w) && decide (w ≤ tot (ends lo hi) + ((n : Int) - (ends lo hi).length) * hi))
def gtB : V → V → Bool
  | .int i, .int j => decide (i > j)
  | _, _ => false
def sumV : V → V → V → V → Bool
  | .int n, .int w, .int lo, .int hi => sumB n.toNat w lo hi
  | _, _, _, _ => false
/-- is it a span, by its five parts -/
def spanB (x1 x2 x3 x4 x5 : V) : Bool := (isNum x1 && (sizeB x2 && intB x3)) && ((readB x4 && (readB x5 && !gtB x4 x5)) && sumV x2 x3 x4 x5)
/-- what is_span finds -/
inductive SpanG (g : Heap) : V → Bool → Prop
  | five {b : Bool} {a : Addr} {u1 u2 u3 u4 u5 : Value} {x1 x2 x3 x4 x5 : V} {t1 t2 t3 t4 t5 : String} (h : SeqG g b a [u1, u2, u3, u4, u5]) (r1 : RelV x1 u1) (r2 : RelV x2 u2) (r3 : RelV x3 u3) (r4 : RelV x4 u4) (r5 : RelV x5 u5)
      (y1 : TyG g x1 t1) (y2 : TyG g x2 t2) (y3 : TyG g x3 t3) (y4 : TyG g x4 t4) (y5 : TyG g x5 t5) (n9 : ∀ n, x2 = .int n → n ≤ 1000000) : SpanG g (.ref a) (spanB x1 x2 x3 x4 x5)
  | few {x : V} {n : Option Nat} (h : PartsG g x n) (n5 : n ≠ some 5) : SpanG g x false
theorem SpanG.mono {g h : Heap} {x : V} {b : Bool} (y : SpanG g x b) (e : Ext g h) : SpanG h x b := by
  cases y with
  | five q r1 r2 r3 r4 r5 y1 y2 y3 y4 y5 n9 => exact .five (q.mono e) r1 r2 r3 r4 r5 (y1.mono e) (y2.mono e) (y3.mono e) (y4.mono e) (y5.mono e) n9
  | few q n => exact .few (q.mono e) n
def pSpan : List V → Heap → V → Prop := fun vs g v => ∃ x b, vs = [x] ∧ SpanG g x b ∧ v = .bl b
theorem sizeB_int {x : V} (h : sizeB x = true) : ∃ n : Nat, x = .int (n : Int) ∧ 0 < n := by
  cases x with
  | int i =>
    have h' : (decide (i ≥ 0) && (decide (i > 0) && (Builtin.bitAnd i (i - 1) == 0))) = true := h
    have := of_decide_eq_true (Bool.and_eq_true_iff.mp (Bool.and_eq_true_iff.mp h').2).1
    exact ⟨i.toNat, by rw [Int.toNat_of_nonneg (by omega)], by omega⟩
  | _ => cases h
theorem readB_int {x : V} (h : readB x = true) : ∃ i : Int, x = .int i ∧ -1000000 ≤ i ∧ i ≤ 1000000 := by
  cases x with
  | int i =>
    have h' : (decide (-1000000 ≤ i) && decide (i ≤ 1000000)) = true := h
    exact ⟨i, rfl, of_decide_eq_true (Bool.and_eq_true_iff.mp h').1, of_decide_eq_true (Bool.and_eq_true_iff.mp h').2⟩
  | _ => cases h
theorem intB_int {x : V} (h : intB x = true) : ∃ i : Int, x = .int i := by
  cases x with
  | int i => exact ⟨i, rfl⟩
  | _ => cases h
theorem not3 {a b c : Bool} (h : (!a || (!b || !c)) = false) : a = true ∧ b = true ∧ c = true := by cases a <;> cases b <;> cases c <;> simp_all
theorem not3' {a b c : Bool} (h : (!a || (!b || c)) = false) : a = true ∧ b = true ∧ c = false := by cases a <;> cases b <;> cases c <;> simp_all
theorem no3 {x1 x2 x3 x4 x5 : V} (h : (!isNum x1 || (!sizeB x2 || !intB x3)) = true) : spanB x1 x2 x3 x4 x5 = false := by
  unfold spanB
  revert h
  generalize isNum x1 = a
  generalize sizeB x2 = b
  generalize intB x3 = c
  cases a <;> cases b <;> cases c <;> simp
theorem no3' {x1 x2 x3 x4 x5 : V} (h : (!readB x4 || (!readB x5 || gtB x4 x5)) = true) : spanB x1 x2 x3 x4 x5 = false := by
  unfold spanB
  revert h
  generalize readB x4 = a
  generalize readB x5 = b
  generalize gtB x4 x5 = c
  cases a <;> cases b <;> cases c <;> simp
theorem ev_isNotN {P : Program} {w : World} {A : Around} {env : Env} {g : Heap} {e : Expr} {pos p2 : Pos} {k : Nat} (he : EV P w A env g e .non) : EV P w A env g (.Compare e [.IsNot] [.Constant .none k p2] pos) (.bl false) := fun s Q E hx hQ => by
  refine wpAny_Compare1 (he s _ E hx fun u h' tk r hk => wpAny_Constant_none ?_) (nobehind _ (by decide) (by decide))
  cases (show u = Value.none from r)
  exact wpAny_isNot_self rfl (hQ _ h' tk rfl hk)
section
variable {P : Program} {w : World} {K : PySem.W.Frag} {mg : Str → Option Value} {base : Heap}
variable {fPar fNum fInt fSz fRd fSm fEn fSq : Addr} {dPar dNum dInt dSz dRd dSm dEn dSq : FuncData}
theorem pf_is_span {f : Addr} {fd : FuncData} (M : L2.Mod K mg base) (G : Mg mg) (V' : Mv mg) (hsum : mg "sum" = none) (F : Fun K "is_span" "is_span" sIsSpan f fd) (F1 : Fns K mg "is_of_parts" ["value", "many"] sIsOfParts fPar dPar) (F2 : Fns K mg "is_number" ["value"] sIsNumber fNum dNum) (F3 : Fns K mg "is_integer" ["value"] sIsInteger fInt dInt)
    (F4 : Fns K mg "is_size" ["value"] sIsSize fSz dSz) (F5 : Fns K mg "is_reading" ["value"] sIsReading fRd dRd) (F6 : Fns K mg "sums_with" ["many", "low", "high", "needs"] sSumsWith fSm dSm) (F7 : Fns K mg "ends_of" ["low", "high"] sEndsOf fEn dEn) (F8 : Fns K mg "is_sequence" ["value"] sIsSequence fSq dSq) : PF P w K mg base 4 f fd ["value"] pSpan := by
  have G1 : PF P w K mg base 2 fPar dPar ["value", "many"] pOfParts := pf_is_of_parts M G F1.fn F8.fn F8.bd F8.mg
  have G2 : PF P w K mg base 2 fNum dNum ["value"] pNumber := pf_is_number M G F2.fn F3.fn F3.bd F3.mg
  have G3 : PF P w K mg base 1 fInt dInt ["value"] pInteger := pf_is_integer M G F3.fn
  have G4 : PF P w K mg base 3 fSz dSz ["value"] pSize := pf_is_size M G F4.fn F2 F3
  have G5 : PF P w K mg base 2 fRd dRd ["value"] pReading := pf_is_reading M G V' F5.fn F3
  have G6 : PFR P w K mg base 1 fSm dSm ["many", "low", "high", "needs"] spSums := pf_sums M G hsum F6.fn
  have G7 : PFR P w K mg base 1 fEn dEn ["low", "high"] spEnds := pf_ends M F7.fn
  refine PFR.pf (pf_body M F scIsSpan (by decide +kernel) fun cdv A L g us vs T m hr hx r hl h hL hn => ?_)
  obtain ⟨v, ⟨x, b, rfl, sp, rfl⟩, rfl⟩ := h
  obtain ⟨u0, rfl, r0⟩ := vals1 r
  have S := St.over (env := envOfC "is_span" (defScope sIsSpan) L f cdv) hL
  have FR : ∀ h1, Ext g h1 → FrP K mg base A (envOfC "is_span" (defScope sIsSpan) L f cdv) h1 := fun h1 e1 => ⟨M, fun b o e => e1 b o (hx b o e), rfl, rfl, rfl, hr.hd⟩
  have m0 : m "value" = some u0 := hn 0 "value" u0 rfl rfl
  have fal : ∀ {k : Nat} {pos pos2 : Pos} {m' : Str → Option Value}, ES P w A (envOfC "is_span" (defScope sIsSpan) L f cdv) (fun h => Ext g h) m' [.Return (some (.Constant (.bool false) k pos)) pos2] (fun u _ => RelV (.bl false) u) := fun {k pos pos2 m'} => es_ret S fun h1 e1 n1 => EV.r ev_bl
  cases sp with
  | @few _ n q n5 =>
    obtain ⟨b, hb, pb⟩ : ∃ b, b = false ∧ ∀ h, Ext g h → pOfParts [x, .int 5] h (.bl b) := by
      cases n with
      | none => exact ⟨false, rfl, fun h e => ⟨x, none, 5, rfl, q.mono e, rfl⟩⟩
      | some k => exact ⟨decide ((k : Int) = 5), decide_eq_false fun z => n5 (by rw [show k = 5 by omega]), fun h e => ⟨x, some k, 5, rfl, q.mono e, rfl⟩⟩
    subst hb
    exact es_if (b := !false) S (fun h1 e1 n1 => et_not (et_val (ev_pf (FR h1 e1) G1 (hr.mono (by decide)) rfl F1.mg F1.fn.kp F1.bd (ea_cons (ev_loc (FR h1 e1) rfl n1 m0 r0) (ea_cons ev_int ea_nil)) rfl fun h e => pb h fun b o q => e b o (e1 b o q)))) (fun _ => fal) fun z => nomatch z
  | @five bb a v1 v2 v3 v4 v5 x1 x2 x3 x4 x5 t1 t2 t3 t4 t5 sq k1 k2 k3 k4 k5 y1 y2 y3 y4 y5 n9 =>
    refine es_if (b := !true) S (fun h1 e1 n1 => et_not (et_val (EV.to (ev_pf (FR h1 e1) G1 (hr.mono (by decide)) rfl F1.mg F1.fn.kp F1.bd (ea_cons (ev_loc (FR h1 e1) rfl n1 m0 r0) (ea_cons ev_int ea_nil)) rfl fun h e => ⟨_, some 5, 5, rfl, PartsG.seq ((sq.mono e1).mono e), rfl⟩) rfl))) (fun z => nomatch z) fun _ => ?_
    refine es_unpack S hr.hd (fun h1 e1 n1 => ev_loc (FR h1 e1) rfl n1 m0 r0) (fun h1 e1 => sq.mono e1) (eu_cons S rfl rfl (eu_cons S rfl rfl (eu_cons S rfl rfl (eu_cons S rfl rfl (eu_cons S rfl rfl eu_nil))))) ?_ (by rfl)
    generalize hm' : put (put (put (put (put m "first" v1) "many" v2) "whole" v3) "low" v4) "high" v5 = m'
    have g1 : m' "first" = some v1 := by rw [← hm']; exact put_ne (put_ne (put_ne (put_ne put_eq (by decide)) (by decide)) (by decide)) (by decide)
    have g2 : m' "many" = some v2 := by rw [← hm']; exact put_ne (put_ne (put_ne put_eq (by decide)) (by decide)) (by decide)
    have g3 : m' "whole" = some v3 := by rw [← hm']; exact put_ne (put_ne put_eq (by decide)) (by decide)
    have g4 : m' "low" = some v4 := by rw [← hm']; exact put_ne put_eq (by decide)
    have g5 : m' "high" = some v5 := by rw [← hm']; exact put_eq
    clear hm'
    refine es_if (b := !isNum x1 || (!sizeB x2 || !intB x3)) S (fun h1 e1 n1 => ?_) (fun z => ?_) fun z => ?_
    · exact et_or (et_not (et_val (ev_pf (FR h1 e1) G2 (hr.mono (by decide)) rfl F2.mg F2.fn.kp F2.bd (ea_cons (ev_loc (FR h1 e1) rfl n1 g1 k1) ea_nil) rfl fun h e => ⟨_, _, rfl, (y1.mono e1).mono e, rfl⟩))) fun _ =>
        et_or (et_not (et_val (ev_pf (FR h1 e1) G4 (hr.mono (by decide)) rfl F4.mg F4.fn.kp F4.bd (ea_cons (ev_loc (FR h1 e1) rfl n1 g2 k2) ea_nil) rfl fun h e => ⟨_, _, rfl, (y2.mono e1).mono e, rfl⟩))) fun _ =>
          et_or1 (et_not (et_val (ev_pf (FR h1 e1) G3 (hr.mono (by decide)) rfl F3.mg F3.fn.kp F3.bd (ea_cons (ev_loc (FR h1 e1) rfl n1 g3 k3) ea_nil) rfl fun h e => ⟨_, _, rfl, (y3.mono e1).mono e, by rw [ty_int y3]⟩)))
    · rw [show spanB x1 x2 x3 x4 x5 = false from no3 z]
      exact fal
    obtain ⟨b1, b2, b3⟩ := not3 z
    have gt3 : ∀ h1, Ext g h1 → h1.Ns L m' → readB x4 = true → readB x5 = true → ∀ {pos q1 q2 : Pos}, EVT P w A (envOfC "is_span" (defScope sIsSpan) L f cdv) h1 (.Compare (.Name "low" q1) [.Gt] [.Name "high" q2] pos) (gtB x4 x5) := fun h1 e1 n1 z4 z5 {pos q1 q2} => by
      obtain ⟨lo, rfl, _⟩ := readB_int z4
      obtain ⟨hi, rfl, _⟩ := readB_int z5
      exact et_cmpI (ev_loc (FR h1 e1) rfl n1 g4 k4) (ev_loc (FR h1 e1) rfl n1 g5 k5) fun _ _ _ _ _ q => gt_int q
    refine es_if (b := !readB x4 || (!readB x5 || gtB x4 x5)) S (fun h1 e1 n1 => ?_) (fun z => ?_) fun z => ?_
    · exact et_or (et_not (et_val (ev_pf (FR h1 e1) G5 (hr.mono (by decide)) rfl F5.mg F5.fn.kp F5.bd (ea_cons (ev_loc (FR h1 e1) rfl n1 g4 k4) ea_nil) rfl fun h e => ⟨_, _, rfl, (y4.mono e1).mono e, rfl⟩))) fun z4 =>
        et_or (et_not (et_val (ev_pf (FR h1 e1) G5 (hr.mono (by decide)) rfl F5.mg F5.fn.kp F5.bd (ea_cons (ev_loc (FR h1 e1) rfl n1 g5 k5) ea_nil) rfl fun h e => ⟨_, _, rfl, (y5.mono e1).mono e, rfl⟩))) fun z5 =>
          et_or1 (gt3 h1 e1 n1 (by simpa using z4) (by simpa using z5))
    · rw [show spanB x1 x2 x3 x4 x5 = false from no3' z]
      exact fal
    obtain ⟨b4, b5, b6⟩ := not3' z
    obtain ⟨n, rfl, np⟩ := sizeB_int b2
    obtain ⟨wh, rfl⟩ := intB_int b3
    obtain ⟨lo, rfl, l1, l2⟩ := readB_int b4
    obtain ⟨hi, rfl, l3, l4⟩ := readB_int b5
    have n9' := n9 _ rfl
    have lE : (ends lo hi).length ≤ 2 := by unfold ends; by_cases z : lo = hi <;> simp [z]
    have res : spanB x1 (.int (n : Int)) (.int wh) (.int lo) (.int hi) = sumB n wh lo hi := by unfold spanB; rw [b1, b2, b3, b4, b5, b6]; rfl
    rw [res]
    have mk : ∀ h1, Ext g h1 → h1.Ns L m' → ∀ {p1 p2 p3 p4 p5 p6 p7 p8 p9 : Pos}, EVR P w A (envOfC "is_span" (defScope sIsSpan) L f cdv) h1 (.Call (.Name "sums_with" p1) [.Name "many" p2, .Name "low" p3, .Name "high" p4, .Call (.Name "ends_of" p5) [.Name "low" p6, .Name "high" p7] [] p8] [] p9) (sumsR n lo hi (ends lo hi)) := fun h1 e1 n1 {p1 p2 p3 p4 p5 p6 p7 p8 p9} => by
      refine er_pf (FR h1 e1) G6 (hr.mono (by decide)) rfl F6.mg F6.fn.kp F6.bd (ar_cons (ev_loc (FR h1 e1) rfl n1 g2 k2) (ar_cons (ev_loc (FR h1 e1) rfl n1 g4 k4) (ar_cons (ev_loc (FR h1 e1) rfl n1 g5 k5)
        (ar_last (er_pf (S := TupR ((ends lo hi).map V.int)) (FR h1 e1) G7 (hr.mono (by decide)) rfl F7.mg F7.fn.kp F7.bd (ar_ea (ea_cons (ev_loc (FR h1 e1) rfl n1 g4 k4) (ea_cons (ev_loc (FR h1 e1) rfl n1 g5 k5) ea_nil))) fun us h e v => ⟨_, v, rfl, lo, hi, rfl, ?_⟩))))) fun us h e v => ?_
      · unfold ends
        by_cases z : lo = hi
        · rw [if_pos z, if_pos z]; rfl
        · rw [if_neg z, if_neg z]; rfl
      · obtain ⟨w1, us1, rfl, x1, w2, us2, rfl, x2, w3, us3, rfl, x3, w4, rfl, a4, us5, rfl, x5, sq5⟩ := v
        exact ⟨[.int (n : Int), .int lo, .int hi, .ref a4], .cons x1 (.cons x2 (.cons x3 (.cons rfl .nil))), rfl, n, lo, hi, a4, ends lo hi, us5, rfl, sq5, x5, by omega, by omega, rfl⟩
    by_cases hE : (ends lo hi).length ≤ n
    · refine es_set2 (R1 := TupR [.int (tot (ends lo hi) + ((n : Int) - (ends lo hi).length) * lo), .int (tot (ends lo hi) + ((n : Int) - (ends lo hi).length) * hi)]) S rfl rfl (fun h1 e1 n1 => ?_) (fun u h m' k n => k.n n) (fun u => TupN.st) fun u => ?_
      · have e : sumsR n lo hi (ends lo hi) = TupR [.int (tot (ends lo hi) + ((n : Int) - (ends lo hi).length) * lo), .int (tot (ends lo hi) + ((n : Int) - (ends lo hi).length) * hi)] := if_pos hE
        rw [← e]
        exact mk h1 e1 n1
      have S2 := S.and (TupN.st (env := envOfC "is_span" (defScope sIsSpan) L f cdv) (vs := [.int (tot (ends lo hi) + ((n : Int) - (ends lo hi).length) * lo), .int (tot (ends lo hi) + ((n : Int) - (ends lo hi).length) * hi)]) (u := u))
      refine es_ret S2 fun h1 e1 n1 => ?_
      obtain ⟨a4, us4, rfl, _, x4', sq4⟩ := e1.2
      obtain ⟨w1, w2, rfl, z1, z2⟩ := vals2 x4'
      have sm : ∀ {pos : Pos}, EV P w A (envOfC "is_span" (defScope sIsSpan) L f cdv) h1 (.Name "sums" pos) (.ref a4) := ev_loc (FR h1 e1.1) rfl n1 put_eq rfl
      refine EV.r (EV.to (ev_and (x := true) (ev_isNot sm) fun _ => ev_one (ev_chain (ev_ix (j := 0) (FR h1 e1.1) sm ev_int sq4 rfl z1) (ev_loc (FR h1 e1.1) rfl n1 (put_ne g3 (by decide)) k3) (ev_ix (j := 1) (FR h1 e1.1) sm ev_int sq4 rfl z2))) ?_)
      unfold sumB
      rw [decide_eq_true hE]
    · refine es_set (R1 := fun u _ => RelV .non u) S rfl rfl (fun h1 e1 n1 => ?_) (fun u h h' x _ => x) fun u => ?_
      · have e : sumsR n lo hi (ends lo hi) = fun u _ => RelV .non u := if_neg hE
        rw [← e]
        exact mk h1 e1 n1
      have S2 : St (envOfC "is_span" (defScope sIsSpan) L f cdv) (fun h => Ext g h ∧ RelV .non u) := S.and fun h h' x _ => x
      refine es_ret S2 fun h1 e1 n1 => ?_
      refine EV.r (EV.to (ev_and (x := false) (y := false) (ev_isNotN (ev_loc (FR h1 e1.1) rfl n1 put_eq e1.2)) fun z => nomatch z) ?_)
      unfold sumB
      rw [decide_eq_false hE]
      rfl
end
end K08
set_option Elab.async false
set_option linter.all false
set_option maxRecDepth 100000
set_option maxHeartbeats 4000000
namespace Pu
open PySem PySem.Spec PyProof.Rows L2 GxR Evl
theorem rv_ixE {K : PySem.W.Frag} {H : Hp} {p : Addr} {xs : List V} {i : Int} {v : V} (h : SqE K H p xs) (ha : atI xs i = some v) : RV (rIx K) (.ref p) (.int i) H v := fun H1 e Q q =>
  (SqE.ex h e).elim (fun h => .inr (.inl ⟨p, xs, i, v, rfl, rfl, h, ha, q H1 (Ex.refl H1)⟩)) fun h => .inl ⟨p, xs, i, v, rfl, rfl, h, ha, q H1 (Ex.refl H1)⟩
theorem Paired.atR {α β : Type} {F : α → β → Prop} {l : List α} {m : List β} (h : Paired F l m) {i : Nat} {x : β} (e : m[i]? = some x) : ∃ a, l[i]? = some a ∧ F a x := by
  induction h generalizing i with
  | nil => cases e
  | cons r t ih =>
    cases i with
    | zero => exact ⟨_, rfl, by cases e; exact r⟩
    | succ i => exact ih e
end Pu
namespace K08
open PySem PySem.Spec PyProof.Rows L2 GxR Pu Evl
structure Cal (P : Program) (w : World) (K : PySem.W.Frag) (mg : Str → Option Value) (base : Heap) (x : Str) (ps : List Str) (st : Stmt) (k : Nat) (sp : Sp) (f : Addr) (fd : FuncData) : Prop where
  ns : Fns K mg x ps st f fd
  ok : FnOk P w K mg base CX0 k f fd ps sp
/-- a span by its five numbers -/
structure S5 where
  f : Nat
  n : Nat
  w : Int
  lo : Int
  hi : Int
def S5.vs (s : S5) : List V := [.int (s.f : Int), .int (s.n : Int), .int s.w, .int s.lo, .int s.hi]
def S5.Ok (s : S5) : Prop := s.n ≤ 1000000 ∧ spanB (.int (s.f : Int)) (.int (s.n : Int)) (.int s.w) (.int s.lo) (.int s.hi) = true
/-- spans as tuples or lists -/
def SpE (K : PySem.W.Frag) (H : Hp) (s : S5) (v : V) : Prop := ∃ b, v = .ref b ∧ SqE K H b s.vs
theorem SpE.ex {K : PySem.W.Frag} {H H' : Hp} {s : S5} {v : V} (h : SpE K H s v) (e : Ex H H') : SpE K H' s v := by
  obtain ⟨b, rfl, q⟩ := h
  exact ⟨b, rfl, SqE.ex q e⟩
def within (s o : S5) : Bool := decide (o.f ≤ s.f) && decide (s.f + s.n ≤ o.f + o.n)
def apart (s o : S5) : Bool := decide (s.f + s.n ≤ o.f) || decide (o.f + o.n ≤ s.f)
def clear (s o : S5) : Bool := apart s o || (within s o || within o s)
theorem scBehind : FnScope ["span"] ["span"] (defScope sBehind) := ⟨rfl, rfl, rfl, by decide +kernel, rfl, by decide +kernel, by decide +kernel⟩
theorem scIsWithin : FnScope ["span", "other"] ["span", "other"] (defScope sIsWithin) := ⟨rfl, rfl, rfl, by decide +kernel, rfl, by decide +kernel, by decide +kernel⟩
theorem scIsApart : FnScope ["span", "other"] ["span", "other"] (defScope sIsApart) := ⟨rfl, rfl, rfl, by decide +kernel, rfl, by decide +kernel, by decide +kernel⟩
theorem scAreClear : FnScope ["one", "other"] ["one", "other"] (defScope sAreClear) := ⟨rfl, rfl, rfl, by decide +kernel, rfl, by decide +kernel, by decide +kernel⟩
def spBehind (K : PySem.W.Frag) : Sp := fun vs H Q _ => ∃ (s : S5) (v : V), vs = [v] ∧ SpE K H s v ∧ ∀ H', Ex H H' → Q (.int ((s.f + s.n : Nat) : Int)) H'
def spTwo (K : PySem.W.Frag) (g : S5 → S5 → Bool) : Sp := fun vs H Q _ => ∃ (s o : S5) (v u : V), vs = [v, u] ∧ SpE K H s v ∧ SpE K H o u ∧ ∀ H', Ex H H' → Q (.bl (g s o)) H'
section
variable {P : Program} {w : World} {K : PySem.W.Frag} {mg : Str → Option Value} {base : Heap} {f f1 f2 f3 : Addr} {fd d1 d2 d3 : FuncData}
theorem spBehind.use {H : Hp} {s : S5} {v : V} (h : SpE K H s v) : SpV (spBehind K) [v] H (.int ((s.f + s.n : Nat) : Int)) := fun H1 e Q q E => ⟨s, v, rfl, h.ex e, q⟩
theorem spTwo.use {g : S5 → S5 → Bool} {H : Hp} {s o : S5} {v u : V} (h : SpE K H s v) (h' : SpE K H o u) : SpV (spTwo K g) [v, u] H (.bl (g s o)) := fun H1 e Q q E => ⟨s, o, v, u, rfl, h.ex e, h'.ex e, q⟩
theorem ix0 (s : S5) : atI s.vs 0 = some (V.int (s.f : Int)) := atI_nat (xs := s.vs) (j := 0) rfl
theorem ix1 (s : S5) : atI s.vs 1 = some (V.int (s.n : Int)) := atI_nat (xs := s.vs) (j := 1) rfl
theorem ix2 (s : S5) : atI s.vs 2 = some (V.int s.w) := atI_nat (xs := s.vs) (j := 2) rfl
theorem ok_behind (F : Fun K "behind" "behind" sBehind f fd) : FnOk P w K mg base CX0 1 f fd ["span"] (spBehind K) := by
  refine F.ok scBehind (fun vs H Q E h => ?_) (fun cdv A outer s H vs Q E hr h => ?_)
  · obtain ⟨s, v, rfl, _⟩ := h
    rfl
  · obtain ⟨s, v, rfl, ⟨b, rfl, q⟩, kk⟩ := h
    refine ⟨_, (pss_one (ps_ret (pe_op op_add (pe_ix ix_seq (pv 0) pe_int (fun _ _ => rfl)) (pe_ix ix_seq (pv 0) pe_int (fun _ _ => rfl))))), ?_⟩
    exact s_ret (ev_op (ev_op (ev_var rfl) ev_c (rv_ixE q (ix0 s))) (ev_op (ev_var rfl) ev_c (rv_ixE q (ix1 s))) rv_I0) kk
theorem ok_is_within (F : Fun K "is_within" "is_within" sIsWithin f fd) (C : Cal P w K mg base "behind" ["span"] sBehind 1 (spBehind K) f1 d1) : FnOk P w K mg base CX0 2 f fd ["span", "other"] (spTwo K within) := by
  refine F.ok scIsWithin (fun vs H Q E h => ?_) (fun cdv A outer s H vs Q E hr h => ?_)
  · obtain ⟨s, o, v, u, rfl, _⟩ := h
    rfl
  · obtain ⟨s, o, v, u, rfl, h1, h2, kk⟩ := h
    obtain ⟨a, rfl, q1⟩ := id h1
    obtain ⟨b, rfl, q2⟩ := id h2
    refine ⟨_, (pss_one (ps_ret (pe_and (pe_cmpR op_le (pe_ix ix_seq (pv 1) pe_int (fun _ _ => rfl)) (pe_ix ix_seq (pv 0) pe_int (fun _ _ => rfl)) (nomark _)) (pe_one (pe_cmpR op_le (pe_call C.ok (hr.mono (by decide)) (by rfl) C.ns.mg C.ns.fn.kp C.ns.bd .nil pass0 (pa_cons (pv 0) pa_nil)) (pe_call C.ok (hr.mono (by decide)) (by rfl) C.ns.mg C.ns.fn.kp C.ns.bd .nil pass0 (pa_cons (pv 1) pa_nil)) (nomark _)))))), ?_⟩
    refine s_ret (v := .bl (within s o)) (ev_is (ev_andV (ev_op (ev_op (ev_var rfl) ev_c (rv_ixE q2 (ix0 o))) (ev_op (ev_var rfl) ev_c (rv_ixE q1 (ix0 s))) rv_I0) fun _ => ev_op (ev_call (ea_cons (ev_var rfl) ea_nil) (spBehind.use h1)) (ev_call (ea_cons (ev_var rfl) ea_nil) (spBehind.use h2)) rv_I0) ?_) kk
    unfold within
    congr 1
    congr 1
    · exact decide_eq_decide.mpr (by omega)
    · exact decide_eq_decide.mpr (by omega)
theorem ok_is_apart (F : Fun K "is_apart" "is_apart" sIsApart f fd) (C : Cal P w K mg base "behind" ["span"] sBehind 1 (spBehind K) f1 d1) : FnOk P w K mg base CX0 2 f fd ["span", "other"] (spTwo K apart) := by
  refine F.ok scIsApart (fun vs H Q E h => ?_) (fun cdv A outer s H vs Q E hr h => ?_)
  · obtain ⟨s, o, v, u, rfl, _⟩ := h
    rfl
  · obtain ⟨s, o, v, u, rfl, h1, h2, kk⟩ := h
    obtain ⟨a, rfl, q1⟩ := id h1
    obtain ⟨b, rfl, q2⟩ := id h2
    refine ⟨_, (pss_one (ps_ret (pe_or (pe_cmpR op_le (pe_call C.ok (hr.mono (by decide)) (by rfl) C.ns.mg C.ns.fn.kp C.ns.bd .nil pass0 (pa_cons (pv 0) pa_nil)) (pe_ix ix_seq (pv 1) pe_int (fun _ _ => rfl)) (nomark _)) (pe_one (pe_cmpR op_le (pe_call C.ok (hr.mono (by decide)) (by rfl) C.ns.mg C.ns.fn.kp C.ns.bd .nil pass0 (pa_cons (pv 1) pa_nil)) (pe_ix ix_seq (pv 0) pe_int (fun _ _ => rfl)) (nomark _)))))), ?_⟩
    refine s_ret (v := .bl (apart s o)) (ev_is (ev_orV (ev_op (ev_call (ea_cons (ev_var rfl) ea_nil) (spBehind.use h1)) (ev_op (ev_var rfl) ev_c (rv_ixE q2 (ix0 o))) rv_I0) fun _ => ev_op (ev_call (ea_cons (ev_var rfl) ea_nil) (spBehind.use h2)) (ev_op (ev_var rfl) ev_c (rv_ixE q1 (ix0 s))) rv_I0) ?_) kk
    unfold apart
    congr 1
    congr 1
    · exact decide_eq_decide.mpr (by omega)
    · exact decide_eq_decide.mpr (by omega)
theorem ok_are_clear (F : Fun K "are_clear" "are_clear" sAreClear f fd) (C1 : Cal P w K mg base "is_apart" ["span", "other"] sIsApart 2 (spTwo K apart) f1 d1) (C2 : Cal P w K mg base "is_within" ["span", "other"] sIsWithin 2 (spTwo K within) f2 d2) :
    FnOk P w K mg base CX0 3 f fd ["one", "other"] (spTwo K clear) := by
  refine F.ok scAreClear (fun vs H Q E h => ?_) (fun cdv A outer s H vs Q E hr h => ?_)
  · obtain ⟨s, o, v, u, rfl, _⟩ := h
    rfl
  · obtain ⟨s, o, v, u, rfl, h1, h2, kk⟩ := h
    refine ⟨_, (pss_one (ps_ret (pe_or (pe_call C1.ok (hr.mono (by decide)) (by rfl) C1.ns.mg C1.ns.fn.kp C1.ns.bd .nil pass0 (pa_cons (pv 0) (pa_cons (pv 1) pa_nil))) (pe_or (pe_call C2.ok (hr.mono (by decide)) (by rfl) C2.ns.mg C2.ns.fn.kp C2.ns.bd .nil pass0 (pa_cons (pv 0) (pa_cons (pv 1) pa_nil))) (pe_one (pe_call C2.ok (hr.mono (by decide)) (by rfl) C2.ns.mg C2.ns.fn.kp C2.ns.bd .nil pass0 (pa_cons (pv 1) (pa_cons (pv 0) pa_nil)))))))), ?_⟩
    exact s_ret (v := .bl (clear s o)) (ev_orV (ev_call (ea_cons (ev_var rfl) (ea_cons (ev_var rfl) ea_nil)) (spTwo.use h1 h2)) fun _ => ev_orV (ev_call (ea_cons (ev_var rfl) (ea_cons (ev_var rfl) ea_nil)) (spTwo.use h1 h2)) fun _ => ev_call (ea_cons (ev_var rfl) (ea_cons (ev_var rfl) ea_nil)) (spTwo.use h2 h1)) kk
end
end K08
set_option Elab.async false
set_option linter.all false
set_option maxRecDepth 100000
set_option maxHeartbeats 4000000
namespace K08
open PySem PySem.Spec PyProof.Rows L2 GxR Pu Evl
/-- what is_span finds of a value -/
inductive SpanH (K : PySem.W.Frag) (H : Hp) : V → Bool → Prop
  | five {a : Addr} {x1 x2 x3 x4 x5 : V} (q : SqE K H a [x1, x2, x3, x4, x5]) (fl : ∀ x ∈ [x1, x2, x3, x4, x5], flatV x = true) (n9 : ∀ n, x2 = .int n → n ≤ 1000000) : SpanH K H (.ref a) (spanB x1 x2 x3 x4 x5)
  | few {a : Addr} {xs : List V} (q : SqE K H a xs) (n : xs.length ≠ 5) : SpanH K H (.ref a) false
  | no {x : V} (h : flatV x = true) : SpanH K H x false
/-- what are_spans finds of a value -/
inductive AreS (K : PySem.W.Frag) (H : Hp) : V → Bool → Prop
  | seq {e : Addr} {xs : List V} {bs : List Bool} (q : SqE K H e xs) (h : Paired (fun b v => SpanH K H v b) bs xs) : AreS K H (.ref e) (bs.all id)
  | no {x : V} (h : flatV x = true) : AreS K H x false
section
variable {K : PySem.W.Frag} {H H' : Hp}
theorem SpanH.of {s : S5} {v : V} (h : SpE K H s v) (ok : s.Ok) : SpanH K H v true := by
  obtain ⟨b, rfl, q⟩ := h
  have := SpanH.five q (fun x hx => by
    simp at hx
    rcases hx with rfl | rfl | rfl | rfl | rfl <;> rfl) fun n e => by cases e; have := ok.1; omega
  rw [ok.2] at this
  exact this
theorem SpanH.go {H1 : Hp} {x : V} {b : Bool} (h : SpanH K H x b) (e : ∀ a xs, SqE K H a xs → SqE K H1 a xs) : SpanH K H1 x b := by
  cases h with
  | five q fl n9 => exact .five (e _ _ q) fl n9
  | few q n => exact .few (e _ _ q) n
  | no h => exact .no h
theorem AreS.go {H1 : Hp} {x : V} {b : Bool} (h : AreS K H x b) (e : ∀ a xs, SqE K H a xs → SqE K H1 a xs) : AreS K H1 x b := by
  cases h with
  | seq q h => exact .seq (e _ _ q) (Paired.mapP h fun _ _ k => k.go e)
  | no h => exact .no h
theorem AreS.ex {x : V} {b : Bool} (h : AreS K H x b) (e : Ex H H') : AreS K H' x b := h.go fun _ _ q => SqE.ex q e
theorem AreS.of {L : List S5} {e : Addr} {xs : List V} (q : SqE K H e xs) (h : Paired (SpE K H) L xs) (ok : ∀ s ∈ L, s.Ok) : AreS K H (.ref e) true := by
  have go : ∀ {L : List S5} {xs : List V}, Paired (SpE K H) L xs → (∀ s ∈ L, s.Ok) → Paired (fun b v => SpanH K H v b) (L.map fun _ => true) xs := by
    intro L xs h
    induction h with
    | nil => intro _; exact .nil
    | cons a b ih => intro ok; exact .cons (SpanH.of a (ok _ (List.mem_cons_self ..))) (ih fun s hs => ok s (List.mem_cons_of_mem _ hs))
  have := AreS.seq q (go h ok)
  have e : (L.map fun _ => true).all id = true := by simp
  rw [e] at this
  exact this
end
theorem flat_ty {g : Heap} {x : V} (h : flatV x = true) : ∃ t, TyG g x t ∧ isSeq t = false := by
  cases x with
  | non => exact ⟨_, .non, rfl⟩
  | bl b => exact ⟨_, .bl b, rfl⟩
  | int i => exact ⟨_, .int i, rfl⟩
  | str s => exact ⟨_, .str s, rfl⟩
  | _ => cases h
theorem scAreSpans : FnScope ["value"] ["value"] (defScope sAreSpans) := ⟨rfl, rfl, rfl, by decide +kernel, rfl, by decide +kernel, by decide +kernel⟩
def spAreS (K : PySem.W.Frag) (Z : Tx) : Sp := fun vs H Q _ => ∃ (x : V) (b : Bool), vs = [x] ∧ AreS K H x b ∧ Z.Ok H ∧ ∀ H', Go Z [] H H' → Q (.bl b) H'
theorem vals_cons {v : V} {vs : List V} {us : List Value} (h : Vals (v :: vs) us) : ∃ u r, us = u :: r ∧ RelV v u ∧ Vals vs r := by
  cases h with | cons a b => exact ⟨_, _, rfl, a, b⟩
theorem range_all (bs : List Bool) : (List.range bs.length).all (fun i => bs.getD i false) = bs.all id := by
  rw [Bool.eq_iff_iff, List.all_eq_true, List.all_eq_true]
  constructor
  · intro h b hb
    obtain ⟨i, hi, rfl⟩ := List.getElem_of_mem hb
    have := h i (List.mem_range.mpr hi)
    rw [List.getD_eq_getElem?_getD, List.getElem?_eq_getElem hi] at this
    exact this
  · intro h i hi
    have hi := List.mem_range.mp hi
    rw [List.getD_eq_getElem?_getD, List.getElem?_eq_getElem hi]
    exact h _ (List.getElem_mem hi)
section
variable {P : Program} {w : World} {K : PySem.W.Frag} {mg : Str → Option Value} {base : Heap} {c T : Addr} {Z : Tx}
variable {fSp fSq : Addr} {dSp dSq : FuncData}
theorem ok_are_spans {f : Addr} {fd : FuncData} (M : L2.Mod K mg base) (G : Mg mg) (F : FunC K "are_spans" "are_spans" sAreSpans f fd c) (TB : TabB base mg c T) (hT : T ∈ Z.ts) (np : Z.p ∉ Z.ts)
    (F4 : Fns K mg "is_sequence" ["value"] sIsSequence fSq dSq) (F5 : Fns K mg "is_span" ["value"] sIsSpan fSp dSp) (G5 : PF P w K mg base 4 fSp dSp ["value"] pSpan) : FnOk P w K mg base CX0 6 f fd ["value"] (spAreS K Z) := by
  have G4 : FnOk P w K mg base CX0 1 fSq dSq ["value"] (spPure P w base ["value"] pSequence) := (pf_is_sequence M G F4.fn).ok
  refine F.ok scAreSpans (fun vs H Q E h => ?_) (fun A outer s H vs Q E hr h => ?_)
  · obtain ⟨x, b, rfl, _⟩ := h
    rfl
  · obtain ⟨x, b, rfl, ha, hz, kk⟩ := h
    refine ⟨_, pss_one (ps_ret (pe_and (pe_call G4 (hr.mono (by decide)) (by rfl) F4.mg F4.fn.kp F4.bd .nil pass0 (pa_cons (pv 0) pa_nil))
      (pe_one (pe_allQ (k := 4) (T := T) (c := c) (hr.mono (by decide)) (by rfl) G.all TB rfl (GenS.of rfl rfl (by decide +kernel) rfl rfl (by decide +kernel)) (pv 0))))), ?_⟩
    have e0 : ∀ (bq : Bool), (∀ H1, Ex H H1 → ∀ h, HOk P w H1 h → Ext base h → pSequence [x] h (.bl bq)) → Ev (tCall (spPure P w base ["value"] pSequence) [] E0 (tCons (tVar 0) tNil)) (start ["value"] [x]) H (.bl bq) := fun bq hb =>
      ev_call (ea_cons (ev_var rfl) ea_nil) (spPure.use rfl hb)
    cases ha with
    | no hf => exact e0 false (fun H1 e1 h ok bx => by obtain ⟨t, ty, hs⟩ := flat_ty hf; exact ⟨_, _, rfl, ty, by rw [hs]⟩) H (Ex.refl H) _ fun H1 e1 => ⟨false, rfl, iteF (kk H1 (Go.ex hz e1))⟩
    | @seq e xs bs he hw =>
      refine e0 true (fun H1 e1 h ok bx => by
        obtain ⟨bb, its, rv, sq⟩ := TyG.of_sq ok (M.kin.keeps bx) (SqE.ex he e1)
        exact ⟨_, _, rfl, TyG.seq sq, by cases bb <;> rfl⟩) H (Ex.refl H) _ fun H1 e1 => ⟨true, rfl, iteT ?_⟩
      have he1 := SqE.ex he e1
      have hw1 := Paired.mapP hw fun _ _ h => h.go (H1 := H1) fun _ _ q => SqE.ex q e1
      have hz1 := hz.ex e1
      have ht1 := hz1.gs T hT
      have bl : bs.length = xs.length := Paired.length hw
      refine ⟨.ref e, rfl, e, xs, fun i => bs.getD i false, rfl, he1, ht1, ?_, fun H4 t4 => ?_⟩
      · intro B' cenv g i v u hrm hs hg' hb hx hn hi rv ok
        obtain ⟨m, ns, hm⟩ := hn
        have FR : FrP K mg base B' cenv g := ⟨M, hx, by rw [hs], hg', hb, hrm.hd⟩
        obtain ⟨bv, hb1, sp⟩ := Paired.atR hw1 hi
        have val : ∀ {pos : Pos}, EV P w B' cenv g (.Name "span" pos) v := ev_loc FR (by show cenv.scope.names.lookup _ = _; rw [hs]; rfl) ns hm rv
        have sg : SpanG g v bv := by
          cases sp with
          | no hf =>
            obtain ⟨t, ty, hs⟩ := flat_ty (g := g) hf
            exact .few (.no ty hs) (fun z => nomatch z)
          | few q n =>
            obtain ⟨bb, its, rvs, sq⟩ := seq_at ht1 ok (M.kin.keeps hx) q
            refine .few (.seq sq) fun z => n ?_
            rw [rvs.length]
            exact Option.some.inj z
          | five q fl n9 =>
            obtain ⟨bb, its, rvs, sq⟩ := seq_at ht1 ok (M.kin.keeps hx) q
            obtain ⟨u1, r1, rfl, k1, q1⟩ := vals_cons rvs
            obtain ⟨u2, r2, rfl, k2, q2⟩ := vals_cons q1
            obtain ⟨u3, r3, rfl, k3, q3⟩ := vals_cons q2
            obtain ⟨u4, u5, rfl, k4, k5⟩ := vals2 q3
            obtain ⟨t1, y1, _⟩ := flat_ty (g := g) (fl _ (List.mem_cons_self ..))
            obtain ⟨t2, y2, _⟩ := flat_ty (g := g) (x := _) (fl _ (List.mem_cons_of_mem _ (List.mem_cons_self ..)))
            obtain ⟨t3, y3, _⟩ := flat_ty (g := g) (fl _ (List.mem_cons_of_mem _ (List.mem_cons_of_mem _ (List.mem_cons_self ..))))
            obtain ⟨t4, y4, _⟩ := flat_ty (g := g) (fl _ (List.mem_cons_of_mem _ (List.mem_cons_of_mem _ (List.mem_cons_of_mem _ (List.mem_cons_self ..)))))
            obtain ⟨t5, y5, _⟩ := flat_ty (g := g) (fl _ (List.mem_cons_of_mem _ (List.mem_cons_of_mem _ (List.mem_cons_of_mem _ (List.mem_cons_of_mem _ (List.mem_cons_self ..))))))
            exact .five sq k1 k2 k3 k4 k5 y1 y2 y3 y4 y5 n9
        have e5 : bs.getD i false = bv := by rw [List.getD_eq_getElem?_getD, hb1]; rfl
        show EV P w B' cenv g _ (.bl (bs.getD i false))
        rw [e5]
        exact ev_pf FR G5 hrm (by show cenv.scope.names.lookup _ = _; rw [hs]; rfl) F5.mg F5.fn.kp F5.bd (Pu.ea_cons val Pu.ea_nil) rfl fun h e => ⟨v, bv, rfl, sg.mono e, rfl⟩
      · show Q (.bl ((List.range xs.length).all fun i => bs.getD i false)) H4
        have e6 : (List.range xs.length).all (fun i => bs.getD i false) = bs.all id := by
          rw [← bl]
          exact range_all bs
        rw [e6]
        exact kk H4 ((Go.ex hz e1).trans (Go.tab hz1 hT np t4))
end
end K08
set_option Elab.async false
set_option linter.all false
set_option maxRecDepth 100000
set_option maxHeartbeats 4000000
/-! laying a row by joining the two eldest of a size: the shape's counts -/
namespace Sh
/-- one more of the least size -/
def bump : List Nat → List Nat
  | [] => [1]
  | c :: cs => (c + 1) :: cs
/-- counts when a row more was laid -/
def inc (k : Nat) : List Nat → List Nat
  | [] => [1]
  | c :: cs => if c < k then (c + 1) :: cs else (c - 1) :: inc k cs
theorem inc_tot {k : Nat} : ∀ (cs : List Nat) (s : Nat), (∀ c ∈ cs, 1 ≤ c) → tot (inc k cs) s = tot cs s + s
  | [], s, _ => by show 0 + s * 1 = 0 + s; omega
  | c :: cs, s, h => by
    have h1 := h c (List.mem_cons_self ..)
    unfold inc
    by_cases z : c < k
    · rw [if_pos z]
      show tot cs (2 * s) + s * (c + 1) = tot cs (2 * s) + s * c + s
      rw [Nat.mul_add, Nat.mul_one]
      omega
    · rw [if_neg z]
      show tot (inc k cs) (2 * s) + s * (c - 1) = tot cs (2 * s) + s * c + s
      rw [inc_tot cs (2 * s) fun x hx => h x (List.mem_cons_of_mem _ hx)]
      obtain ⟨d, rfl⟩ : ∃ d, c = d + 1 := ⟨c - 1, by omega⟩
      rw [Nat.add_sub_cancel, Nat.mul_add, Nat.mul_one]
      omega
theorem inc_cons (k : Nat) : ∀ cs : List Nat, ∃ d ds, inc k cs = d :: ds
  | [] => ⟨1, [], rfl⟩
  | c :: cs => by
    unfold inc
    by_cases z : c < k
    · exact ⟨_, _, if_pos z⟩
    · exact ⟨_, _, if_neg z⟩
theorem inc_val {k : Nat} (hk : 2 ≤ k) {cs : List Nat} (h : Val k cs) : Val k (inc k cs) := by
  induction h with
  | @one c h1 h2 =>
    unfold inc
    by_cases z : c < k
    · rw [if_pos z]
      exact .one (by omega) (by omega)
    · rw [if_neg z]
      exact .more (.inr (by omega)) (.one (by omega) (by omega))
  | @more c d cs h r ih =>
    unfold inc
    by_cases z : c < k
    · rw [if_pos z]
      exact .more (.inl (by omega)) r
    · rw [if_neg z]
      obtain ⟨d', ds', e⟩ := inc_cons k (d :: cs)
      rw [e] at ih ⊢
      exact .more (.inr (by omega)) ih
theorem val_all {k : Nat} (hk : 2 ≤ k) {cs : List Nat} (h : Val k cs) : ∀ c ∈ cs, 1 ≤ c ∧ c ≤ k := by
  induction h with
  | one h1 h2 =>
    intro c hc
    rw [List.mem_singleton.mp hc]
    exact ⟨h1, h2⟩
  | more h r ih =>
    intro c hc
    rcases List.mem_cons.mp hc with z | z
    · rw [z]
      omega
    · exact ih c z
/-- a row more: the counts of one row more -/
theorem inc_counts {k : Nat} (hk : 2 ≤ k) (m : Nat) : inc k (counts k m) = counts k (m + 1) := by
  by_cases h : 0 < m
  · have v := counts_val hk m h
    have t : tot (inc k (counts k m)) 1 = m + 1 := by
      rw [inc_tot _ 1 fun c hc => (val_all hk v c hc).1, counts_tot hk]
    rw [← t, uniq hk (inc_val hk v)]
  · have z : m = 0 := by omega
    subst z
    rw [counts_zero]
    have v : Val k [1] := .one (Nat.le_refl 1) (by omega)
    have u := uniq hk v
    have t : tot [1] 1 = 0 + 1 := rfl
    rw [t] at u
    exact u.symm
/-- the eldest two of a size, joined -/
def merge (i : Nat) (L : List (Nat × Nat)) : List (Nat × Nat) := match L.drop i with
  | a :: b :: r => L.take i ++ (a.1, a.2 + b.2) :: r
  | _ => L
theorem sh_bump : ∀ (cs : List Nat) (f s : Nat), sh f (bump cs) s = sh f cs s ++ [(f + tot cs s, s)]
  | [], f, s => by
    show [] ++ (List.range 1).map (fun j => (f + 0 + s * j, s)) = [] ++ [(f + 0, s)]
    rfl
  | c :: cs, f, s => by
    show sh f cs (2 * s) ++ (List.range (c + 1)).map _ = (sh f cs (2 * s) ++ (List.range c).map _) ++ [(f + (tot cs (2 * s) + s * c), s)]
    rw [List.range_succ, List.map_append, List.append_assoc]
    congr 2
    show [(f + tot cs (2 * s) + s * c, s)] = _
    rw [Nat.add_assoc]
theorem tot_bump : ∀ (cs : List Nat) (s : Nat), tot (bump cs) s = tot cs s + s
  | [], s => by show 0 + s * 1 = 0 + s; omega
  | c :: cs, s => by
    show tot cs (2 * s) + s * (c + 1) = tot cs (2 * s) + s * c + s
    rw [Nat.mul_add, Nat.mul_one]
    omega
theorem merge_at {A : List (Nat × Nat)} {a b : Nat × Nat} {r : List (Nat × Nat)} : merge A.length (A ++ a :: b :: r) = A ++ (a.1, a.2 + b.2) :: r := by
  unfold merge
  rw [List.drop_left, List.take_left]
theorem range2 {α : Type} (g : Nat → α) (c : Nat) : (List.range (c + 2)).map g = g 0 :: g 1 :: (List.range c).map fun j => g (j + 2) := by
  rw [List.range_succ_eq_map, List.map_cons, List.range_succ_eq_map, List.map_cons, List.map_cons, List.map_map, List.map_map]
  rfl
/-- joining the eldest two of the least size -/
theorem merge_sh (c : Nat) (cs : List Nat) (f s : Nat) : merge (sh f cs (2 * s)).length (sh f ((c + 2) :: cs) s) = sh f (c :: bump cs) s := by
  have e1 : sh f ((c + 2) :: cs) s = sh f cs (2 * s) ++ (f + tot cs (2 * s), s) :: (f + tot cs (2 * s) + s, s) :: (List.range c).map fun j => (f + tot cs (2 * s) + s * (j + 2), s) := by
    show sh f cs (2 * s) ++ (List.range (c + 2)).map _ = _
    rw [range2]
    show _ ++ (f + tot cs (2 * s) + s * 0, s) :: (f + tot cs (2 * s) + s * 1, s) :: _ = _
    rw [Nat.mul_zero, Nat.mul_one, Nat.add_zero]
  rw [e1, merge_at]
  show _ = sh f (bump cs) (2 * s) ++ (List.range c).map _
  rw [sh_bump, tot_bump, List.append_assoc]
  congr 1
  show (f + tot cs (2 * s), s + s) :: _ = (f + tot cs (2 * s), 2 * s) :: _
  rw [Nat.two_mul]
  congr 1
  refine List.map_congr_left fun j _ => ?_
  show (f + tot cs (s + s) + s * (j + 2), s) = (f + (tot cs (s + s) + (s + s)) + s * j, s)
  congr 1
  rw [Nat.mul_add]
  omega
end Sh
set_option Elab.async false
set_option linter.all false
set_option maxRecDepth 100000
set_option maxHeartbeats 4000000
/-! values of rows: sum, least, greatest of stretches -/
namespace Sv
open Sh
def lmin : List Int → Int
  | [] => 0
  | [x] => x
  | x :: y :: r => min x (lmin (y :: r))
def lmax : List Int → Int
  | [] => 0
  | [x] => x
  | x :: y :: r => max x (lmax (y :: r))
theorem lmin_spec : ∀ {xs : List Int}, xs ≠ [] → lmin xs ∈ xs ∧ ∀ y ∈ xs, lmin xs ≤ y
  | [], h => absurd rfl h
  | [x], _ => ⟨List.mem_singleton.mpr rfl, fun y hy => by rw [List.mem_singleton.mp hy]; exact Int.le_refl _⟩
  | x :: y :: r, _ => by
    have ih := lmin_spec (xs := y :: r) (List.cons_ne_nil _ _)
    have e : lmin (x :: y :: r) = min x (lmin (y :: r)) := rfl
    refine ⟨?_, fun z hz => ?_⟩
    · by_cases c : x ≤ lmin (y :: r)
      · rw [e, show min x (lmin (y :: r)) = x by omega]; exact List.mem_cons_self
      · rw [e, show min x (lmin (y :: r)) = lmin (y :: r) by omega]; exact List.mem_cons_of_mem _ ih.1
    · rcases List.mem_cons.mp hz with q | q
      · rw [e, q]; omega
      · have := ih.2 z q
        rw [e]; omega
theorem lmax_spec : ∀ {xs : List Int}, xs ≠ [] → lmax xs ∈ xs ∧ ∀ y ∈ xs, y ≤ lmax xs
  | [], h => absurd rfl h
  | [x], _ => ⟨List.mem_singleton.mpr rfl, fun y hy => by rw [List.mem_singleton.mp hy]; exact Int.le_refl _⟩
  | x :: y :: r, _ => by
    have ih := lmax_spec (xs := y :: r) (List.cons_ne_nil _ _)
    have e : lmax (x :: y :: r) = max x (lmax (y :: r)) := rfl
    refine ⟨?_, fun z hz => ?_⟩
    · by_cases c : lmax (y :: r) ≤ x
      · rw [e, show max x (lmax (y :: r)) = x by omega]; exact List.mem_cons_self
      · rw [e, show max x (lmax (y :: r)) = lmax (y :: r) by omega]; exact List.mem_cons_of_mem _ ih.1
    · rcases List.mem_cons.mp hz with q | q
      · rw [e, q]; omega
      · have := ih.2 z q
        rw [e]; omega
theorem lmin_uniq {xs : List Int} {m : Int} (h : m ∈ xs) (k : ∀ y ∈ xs, m ≤ y) : m = lmin xs := by
  have s := lmin_spec (xs := xs) (fun e => by rw [e] at h; cases h)
  have a := k _ s.1
  have b := s.2 _ h
  omega
theorem lmax_uniq {xs : List Int} {m : Int} (h : m ∈ xs) (k : ∀ y ∈ xs, y ≤ m) : m = lmax xs := by
  have s := lmax_spec (xs := xs) (fun e => by rw [e] at h; cases h)
  have a := k _ s.1
  have b := s.2 _ h
  omega
theorem lmin_app {a b : List Int} (ha : a ≠ []) (hb : b ≠ []) : lmin (a ++ b) = min (lmin a) (lmin b) := by
  have sa := lmin_spec ha
  have sb := lmin_spec hb
  refine (lmin_uniq ?_ fun y hy => ?_).symm
  · by_cases c : lmin a ≤ lmin b
    · rw [show min (lmin a) (lmin b) = lmin a by omega]; exact List.mem_append_left _ sa.1
    · rw [show min (lmin a) (lmin b) = lmin b by omega]; exact List.mem_append_right _ sb.1
  · rcases List.mem_append.mp hy with q | q
    · have := sa.2 y q; omega
    · have := sb.2 y q; omega
theorem lmax_app {a b : List Int} (ha : a ≠ []) (hb : b ≠ []) : lmax (a ++ b) = max (lmax a) (lmax b) := by
  have sa := lmax_spec ha
  have sb := lmax_spec hb
  refine (lmax_uniq ?_ fun y hy => ?_).symm
  · by_cases c : lmax b ≤ lmax a
    · rw [show max (lmax a) (lmax b) = lmax a by omega]; exact List.mem_append_left _ sa.1
    · rw [show max (lmax a) (lmax b) = lmax b by omega]; exact List.mem_append_right _ sb.1
  · rcases List.mem_append.mp hy with q | q
    · have := sa.2 y q; omega
    · have := sb.2 y q; omega
theorem sum_ge {lo : Int} : ∀ {xs : List Int}, (∀ y ∈ xs, lo ≤ y) → (xs.length : Int) * lo ≤ xs.sum
  | [], _ => by simp
  | x :: xs, h => by
    have ih := sum_ge (xs := xs) fun y hy => h y (List.mem_cons_of_mem _ hy)
    have h0 := h x List.mem_cons_self
    rw [List.sum_cons, List.length_cons]
    have e : ((xs.length + 1 : Nat) : Int) * lo = (xs.length : Int) * lo + lo := by rw [show ((xs.length + 1 : Nat) : Int) = (xs.length : Int) + 1 by omega, Int.add_mul, Int.one_mul]
    omega
theorem sum_le {hi : Int} : ∀ {xs : List Int}, (∀ y ∈ xs, y ≤ hi) → xs.sum ≤ (xs.length : Int) * hi
  | [], _ => by simp
  | x :: xs, h => by
    have ih := sum_le (xs := xs) fun y hy => h y (List.mem_cons_of_mem _ hy)
    have h0 := h x List.mem_cons_self
    rw [List.sum_cons, List.length_cons]
    have e : ((xs.length + 1 : Nat) : Int) * hi = (xs.length : Int) * hi + hi := by rw [show ((xs.length + 1 : Nat) : Int) = (xs.length : Int) + 1 by omega, Int.add_mul, Int.one_mul]
    omega
theorem sum_ge1 {lo z : Int} : ∀ {xs : List Int}, (∀ y ∈ xs, lo ≤ y) → z ∈ xs → (xs.length : Int) * lo + (z - lo) ≤ xs.sum
  | [], _, h => nomatch h
  | x :: xs, h, hz => by
    have h0 := h x List.mem_cons_self
    rw [List.sum_cons, List.length_cons]
    have e : ((xs.length + 1 : Nat) : Int) * lo = (xs.length : Int) * lo + lo := by rw [show ((xs.length + 1 : Nat) : Int) = (xs.length : Int) + 1 by omega, Int.add_mul, Int.one_mul]
    rcases List.mem_cons.mp hz with q | q
    · have ih := sum_ge (xs := xs) fun y hy => h y (List.mem_cons_of_mem _ hy)
      omega
    · have ih := sum_ge1 (xs := xs) (fun y hy => h y (List.mem_cons_of_mem _ hy)) q
      omega
theorem sum_le1 {hi z : Int} : ∀ {xs : List Int}, (∀ y ∈ xs, y ≤ hi) → z ∈ xs → xs.sum ≤ (xs.length : Int) * hi - (hi - z)
  | [], _, h => nomatch h
  | x :: xs, h, hz => by
    have h0 := h x List.mem_cons_self
    rw [List.sum_cons, List.length_cons]
    have e : ((xs.length + 1 : Nat) : Int) * hi = (xs.length : Int) * hi + hi := by rw [show ((xs.length + 1 : Nat) : Int) = (xs.length : Int) + 1 by omega, Int.add_mul, Int.one_mul]
    rcases List.mem_cons.mp hz with q | q
    · have ih := sum_le (xs := xs) fun y hy => h y (List.mem_cons_of_mem _ hy)
      omega
    · have ih := sum_le1 (xs := xs) (fun y hy => h y (List.mem_cons_of_mem _ hy)) q
      omega
/-- the values of a stretch -/
def sl (v : List Int) (p : Nat × Nat) : List Int := (v.drop p.1).take p.2
theorem sl_len {v : List Int} {p : Nat × Nat} (h : p.1 + p.2 ≤ v.length) : (sl v p).length = p.2 := by
  unfold sl
  rw [List.length_take, List.length_drop]
  omega
theorem sl_ne {v : List Int} {p : Nat × Nat} (h : p.1 + p.2 ≤ v.length) (h1 : 1 ≤ p.2) : sl v p ≠ [] := fun e => by
  have := sl_len h
  rw [e] at this
  simp at this
  omega
theorem sl_snoc {v : List Int} {p : Nat × Nat} {x : Int} (h : p.1 + p.2 ≤ v.length) : sl (v ++ [x]) p = sl v p := by
  unfold sl
  rw [List.drop_append_of_le_length (by omega), List.take_append_of_le_length (by rw [List.length_drop]; omega)]
theorem sl_last {v : List Int} {x : Int} : sl (v ++ [x]) (v.length, 1) = [x] := by
  unfold sl
  show (List.drop v.length (v ++ [x])).take 1 = [x]
  rw [List.drop_left]
  rfl
theorem sl_two {v : List Int} {a n m : Nat} : sl v (a, n) ++ sl v (a + n, m) = sl v (a, n + m) := by
  unfold sl
  show (v.drop a).take n ++ (v.drop (a + n)).take m = (v.drop a).take (n + m)
  rw [← List.drop_drop, List.take_add]
theorem sl_mem {v : List Int} {p : Nat × Nat} {y : Int} (h : y ∈ sl v p) : y ∈ v := List.mem_of_mem_drop (List.mem_of_mem_take h)
/-- the sizes of shapes are powers of two -/
theorem sh_pow : ∀ (cs : List Nat) (i f : Nat) (p : Nat × Nat), p ∈ sh f cs (2 ^ i) → ∃ j, p.2 = 2 ^ j := by
  intro cs i f p h
  obtain ⟨j, _, e⟩ := size_in cs (2 ^ i) f p h
  exact ⟨i + j, by rw [e, ← Nat.pow_add]⟩
/-- what settling goes through: the level's counts with one more, and what lies behind -/
def lvl (f : Nat) (ds : List Nat) (s : Nat) (low : List (Nat × Nat)) : List (Nat × Nat) := sh f (bump ds) s ++ low
theorem lvl_end {k f s c : Nat} {ds : List Nat} {low : List (Nat × Nat)} (h : c < k) : lvl f (c :: ds) s low = sh f (inc k (c :: ds)) s ++ low := by
  unfold lvl inc
  rw [if_pos h]
  rfl
theorem lvl_end0 {k f s : Nat} {low : List (Nat × Nat)} : lvl f [] s low = sh f (inc k []) s ++ low := rfl
theorem inc_over {k c : Nat} {ds : List Nat} (h : ¬ c < k) : inc k (c :: ds) = (c - 1) :: inc k ds := if_neg h
/-- what a level leaves behind -/
def lows (f c s t : Nat) (low : List (Nat × Nat)) : List (Nat × Nat) := (List.range c).map (fun j => (f + t + s * j, s)) ++ low
theorem lvl_fin {k f s c : Nat} {ds : List Nat} {low : List (Nat × Nat)} (h : ¬ c < k) (h1 : ∀ d ∈ ds, 1 ≤ d) : sh f (inc k (c :: ds)) s ++ low = sh f (inc k ds) (2 * s) ++ lows f (c - 1) s (tot ds (2 * s) + 2 * s) low := by
  unfold lows
  rw [← List.append_assoc]
  congr 1
  rw [inc_over h]
  show sh f (inc k ds) (2 * s) ++ (List.range (c - 1)).map _ = _
  rw [inc_tot ds (2 * s) h1]
theorem lvl_step {f s c : Nat} {ds : List Nat} {low : List (Nat × Nat)} (h : 1 ≤ c) :
    ∃ r, lvl f (c :: ds) s low = sh f ds (2 * s) ++ (f + tot ds (2 * s), s) :: (f + tot ds (2 * s) + s, s) :: r ∧ lvl f ds (2 * s) (lows f (c - 1) s (tot ds (2 * s) + 2 * s) low) = sh f ds (2 * s) ++ (f + tot ds (2 * s), 2 * s) :: r := by
  obtain ⟨d, rfl⟩ : ∃ d, c = d + 1 := ⟨c - 1, by omega⟩
  refine ⟨(List.range d).map (fun j => (f + tot ds (2 * s) + s * (j + 2), s)) ++ low, ?_, ?_⟩
  · unfold lvl
    show (sh f ds (2 * s) ++ (List.range (d + 2)).map (fun j => (f + tot ds (2 * s) + s * j, s))) ++ low = _
    rw [range2, List.append_assoc]
    show sh f ds (2 * s) ++ ((f + tot ds (2 * s) + s * 0, s) :: (f + tot ds (2 * s) + s * 1, s) :: (List.range d).map (fun j => (f + tot ds (2 * s) + s * (j + 2), s)) ++ low) = _
    rw [Nat.mul_zero, Nat.mul_one, Nat.add_zero]
    rfl
  · unfold lvl lows
    rw [sh_bump, Nat.add_sub_cancel, List.append_assoc]
    congr 1
    show (f + tot ds (2 * s), 2 * s) :: ((List.range d).map _ ++ low) = _
    congr 2
    refine List.map_congr_left fun j _ => ?_
    show (f + (tot ds (2 * s) + 2 * s) + s * j, s) = (f + tot ds (2 * s) + s * (j + 2), s)
    congr 1
    rw [Nat.mul_add]
    omega
/-- places of the spans of a size -/
def idx (s : Nat) : Nat → List (Nat × Nat) → List Nat
  | _, [] => []
  | o, p :: r => if p.2 = s then o :: idx s (o + 1) r else idx s (o + 1) r
theorem idx_app (s : Nat) : ∀ (x y : List (Nat × Nat)) (o : Nat), idx s o (x ++ y) = idx s o x ++ idx s (o + x.length) y
  | [], y, o => rfl
  | p :: x, y, o => by
    have ih := idx_app s x y (o + 1)
    have e : o + 1 + x.length = o + (p :: x).length := by rw [List.length_cons]; omega
    rw [e] at ih
    show (if p.2 = s then o :: idx s (o + 1) (x ++ y) else idx s (o + 1) (x ++ y)) = (if p.2 = s then o :: idx s (o + 1) x else idx s (o + 1) x) ++ _
    by_cases z : p.2 = s
    · rw [if_pos z, if_pos z, ih]; rfl
    · rw [if_neg z, if_neg z, ih]
theorem idx_none (s : Nat) : ∀ (x : List (Nat × Nat)) (o : Nat), (∀ p ∈ x, p.2 ≠ s) → idx s o x = []
  | [], _, _ => rfl
  | p :: x, o, h => by
    show (if p.2 = s then o :: idx s (o + 1) x else idx s (o + 1) x) = []
    rw [if_neg (h p List.mem_cons_self)]
    exact idx_none s x (o + 1) fun q hq => h q (List.mem_cons_of_mem _ hq)
theorem idx_same (s t : Nat) : ∀ (c o : Nat) (g : Nat → Nat), (idx s o ((List.range c).map fun j => (g j, s))).length = c
  | 0, _, _ => rfl
  | c + 1, o, g => by
    rw [List.range_succ, List.map_append, idx_app, List.length_append, idx_same s t c o g]
    show c + (if s = s then [o + _] else []).length = c + 1
    rw [if_pos rfl]
    rfl
theorem idx_len (s : Nat) : ∀ (x : List (Nat × Nat)) (o : Nat), (idx s o x).length ≤ x.length
  | [], _ => Nat.le_refl _
  | p :: x, o => by
    have ih := idx_len s x (o + 1)
    show (if p.2 = s then o :: idx s (o + 1) x else idx s (o + 1) x).length ≤ x.length + 1
    by_cases z : p.2 = s
    · rw [if_pos z, List.length_cons]; omega
    · rw [if_neg z]; omega
/-- of a level: so many of its size, the first one behind the greater ones -/
theorem idx_lvl {f s c : Nat} {ds : List Nat} {low : List (Nat × Nat)} (hs : 0 < s) (hl : ∀ p ∈ low, p.2 < s) : ∃ r, idx s 0 (lvl f (c :: ds) s low) = (sh f ds (2 * s)).length :: r ∧ r.length = c := by
  have e : lvl f (c :: ds) s low = sh f ds (2 * s) ++ ((List.range (c + 1)).map (fun j => (f + tot ds (2 * s) + s * j, s)) ++ low) := by
    unfold lvl
    show (sh f ds (2 * s) ++ (List.range (c + 1)).map _) ++ low = _
    rw [List.append_assoc]
  rw [e, idx_app, idx_app, idx_none s (sh f ds (2 * s)) 0 fun p hp => ?_, idx_none s low _ fun p hp => ?_, List.append_nil, List.nil_append]
  · have l := idx_same s s (c + 1) (0 + (sh f ds (2 * s)).length) fun j => f + tot ds (2 * s) + s * j
    have e2 : (List.range (c + 1)).map (fun j => (f + tot ds (2 * s) + s * j, s)) = (f + tot ds (2 * s) + s * 0, s) :: (List.range c).map (fun j => (f + tot ds (2 * s) + s * (j + 1), s)) := by
      rw [List.range_succ_eq_map, List.map_cons, List.map_map]
      rfl
    rw [e2] at l ⊢
    have e3 : ∀ (o : Nat) (r : List (Nat × Nat)) (a : Nat), idx s o ((a, s) :: r) = o :: idx s (o + 1) r := fun o r a => if_pos rfl
    rw [e3] at l ⊢
    refine ⟨_, by rw [Nat.zero_add], ?_⟩
    rw [List.length_cons] at l
    rw [Nat.zero_add] at l
    omega
  · have := hl p hp
    omega
  · have := (sh_mem ds (2 * s) f p hp).2.2
    omega
theorem idx_lvl0 {f s : Nat} {low : List (Nat × Nat)} (hl : ∀ p ∈ low, p.2 < s) : (idx s 0 (lvl f [] s low)).length = 1 := by
  unfold lvl
  rw [idx_app, idx_none s low _ fun p hp => ?_, List.append_nil]
  · show (idx s 0 ([] ++ (List.range 1).map fun j => (f + 0 + s * j, s))).length = 1
    rw [List.nil_append]
    exact idx_same s s 1 0 fun j => f + 0 + s * j
  · have := hl p hp
    omega
theorem lows_lt {f c s t : Nat} {low : List (Nat × Nat)} (hs : 0 < s) (hl : ∀ p ∈ low, p.2 < s) : ∀ p ∈ lows f c s t low, p.2 < 2 * s := fun p hp => by
  rcases List.mem_append.mp hp with q | q
  · obtain ⟨j, _, rfl⟩ := List.mem_map.mp q
    show s < 2 * s
    omega
  · have := hl p q
    omega
end Sv
set_option Elab.async false
set_option linter.all false
set_option maxRecDepth 100000
set_option maxHeartbeats 4000000
namespace Pu
open PySem PySem.Spec PyProof.Rows L2 GxR Evl
theorem t_orF {t u : TT} {σ : L2.St} {H : Hp} {Q : Bool → Hp → Prop} (h1 : EvT t σ H false) (h2 : ∀ H1, Ex H H1 → u σ H1 Q) : tOr t u σ H Q := h1 H (Ex.refl H) _ fun H1 e => h2 H1 e
theorem t_orT {t u : TT} {σ : L2.St} {H : Hp} {Q : Bool → Hp → Prop} (h1 : EvT t σ H true) (h2 : ∀ H1, Ex H H1 → Q true H1) : tOr t u σ H Q := h1 H (Ex.refl H) _ fun H1 e => h2 H1 e
theorem t_orN {t u : TT} {σ : L2.St} {H : Hp} {Q : Bool → Hp → Prop} (h1 : EvT t σ H (!true)) (h2 : ∀ H1, Ex H H1 → u σ H1 Q) : tOr t u σ H Q := t_orF h1 h2
theorem rc_lenE {K : PySem.W.Frag} {H : Hp} {a : Addr} {xs : List V} (h : SqL K H a xs ∨ SqT K H a xs) : RC (fun zs H Q => ∃ p ys, zs = [V.ref p] ∧ (SqL K H p ys ∨ SqT K H p ys) ∧ Q (.int (ys.length : Int)) H) [.ref a] H (.int (xs.length : Int)) := fun H1 e Q q => ⟨a, xs, rfl, h.imp (ex_l e) (ex_t e), q H1 (Ex.refl H1)⟩
end Pu
namespace K08
open PySem PySem.Spec PyProof.Rows L2 GxR Pu Evl Sv
/-- the span of values -/
def spanOf (f : Nat) (v : List Int) : S5 := ⟨f, v.length, v.sum, lmin v, lmax v⟩
theorem tot1 {A : Int} : tot [A] = A := by show (0 : Int) + A = A; omega
theorem tot2 {A B : Int} : tot [A, B] = A + B := by show ((0 : Int) + A) + B = A + B; omega
theorem sizeB_pow (i : Nat) : sizeB (.int ((2 ^ i : Nat) : Int)) = true := by
  have p : 0 < 2 ^ i := Nat.two_pow_pos i
  show (decide (((2 ^ i : Nat) : Int) ≥ 0) && (decide (((2 ^ i : Nat) : Int) > 0) && (Builtin.bitAnd ((2 ^ i : Nat) : Int) (((2 ^ i : Nat) : Int) - 1) == 0))) = true
  rw [pow_and, decide_eq_true (by omega), decide_eq_true (by omega)]
  rfl
/-- values that may be asked -/
def Vok (v : List Int) : Prop := (∃ i, v.length = 2 ^ i) ∧ v.length ≤ 1000 ∧ ∀ y ∈ v, -1000000 ≤ y ∧ y ≤ 1000000
theorem spanOf_ok {f : Nat} {v : List Int} (h : Vok v) : (spanOf f v).Ok := by
  obtain ⟨⟨i, hi⟩, hl, hv⟩ := h
  have pos : 1 ≤ 2 ^ i := Nat.one_le_two_pow
  have ne : v ≠ [] := fun z => by rw [z] at hi; simp at hi; omega
  have m1 := lmin_spec ne
  have m2 := lmax_spec ne
  have b1 := hv _ m1.1
  have b2 := hv _ m2.1
  have le := m1.2 _ m2.1
  have g1 := sum_ge1 m1.2 m2.1
  have g2 := sum_le1 m2.2 m1.1
  have g1' := sum_ge m1.2
  have g2' := sum_le m2.2
  have one : lmin v ≠ lmax v → 2 ≤ v.length := fun z => by
    rw [hi]
    cases hj : i with
    | zero =>
      exfalso
      rw [hj] at hi
      obtain ⟨x, hx⟩ := List.length_eq_one_iff.mp hi
      rw [hx] at z
      exact z rfl
    | succ j => rw [Nat.pow_succ]; have : 1 ≤ 2 ^ j := Nat.one_le_two_pow; omega
  refine ⟨by show v.length ≤ _; omega, ?_⟩
  show spanB (.int (f : Int)) (.int (v.length : Int)) (.int v.sum) (.int (lmin v)) (.int (lmax v)) = true
  have hs : sizeB (.int (v.length : Int)) = true := by rw [hi]; exact sizeB_pow i
  have r1 : readB (.int (lmin v)) = true := by
    show (decide (-1000000 ≤ lmin v) && decide (lmin v ≤ 1000000)) = true
    rw [decide_eq_true b1.1, decide_eq_true b1.2]; rfl
  have r2 : readB (.int (lmax v)) = true := by
    show (decide (-1000000 ≤ lmax v) && decide (lmax v ≤ 1000000)) = true
    rw [decide_eq_true b2.1, decide_eq_true b2.2]; rfl
  have n0 : isNum (.int (f : Int)) = true := decide_eq_true (show (f : Int) ≥ 0 by omega)
  have gt : gtB (.int (lmin v)) (.int (lmax v)) = false := decide_eq_false (by omega)
  have sm : sumV (.int (v.length : Int)) (.int v.sum) (.int (lmin v)) (.int (lmax v)) = true := by
    show sumB ((v.length : Int)).toNat v.sum (lmin v) (lmax v) = true
    rw [Int.toNat_natCast]
    generalize lmin v = A at *
    generalize lmax v = B at *
    generalize v.sum = S at *
    generalize v.length = n at *
    unfold sumB ends
    by_cases z : A = B
    · subst z
      rw [if_pos rfl]
      have e1 : tot [A] = A := tot1
      rw [e1]
      simp only [List.length_singleton, Int.sub_mul, Bool.and_eq_true, decide_eq_true_eq]
      omega
    · rw [if_neg z]
      have e2 : tot [A, B] = A + B := tot2
      have := one z
      rw [e2]
      simp only [List.length_cons, List.length_nil, Int.sub_mul, Bool.and_eq_true, decide_eq_true_eq]
      omega
  unfold spanB
  rw [n0, hs, r1, r2, gt, sm]
  rfl
theorem scSpanOf : FnScope ["first", "values"] ["first", "values"] (defScope sSpanOf) := ⟨rfl, rfl, rfl, by decide +kernel, rfl, by decide +kernel, by decide +kernel⟩
def spSpanOf (K : PySem.W.Frag) (Z : Tx) : Sp := fun vs H Q _ => ∃ (f : Nat) (e : Addr) (v : List Int), vs = [.int (f : Int), .ref e] ∧ SqL K H e (v.map V.int) ∧ Vok v ∧ Z.Ok H ∧
  ∀ p H', H p = none → Go Z [] H H' → H' p = some (.tup (spanOf f v).vs) → Q (.ref p) H'
section
variable {P : Program} {w : World} {K : PySem.W.Frag} {mg : Str → Option Value} {base : Heap} {c T : Addr} {Z : Tx}
variable {fNN fSq fSz fRd fNum fInt : Addr} {dNN dSq dSz dRd dNum dInt : FuncData}
theorem ok_span_of {f : Addr} {fd : FuncData} (M : L2.Mod K mg base) (G : Mg mg) (V' : Mv mg) (hsum : mg "sum" = none) (F : FunC K "span_of" "span_of" sSpanOf f fd c) (TB : TabB base mg c T) (hT : T ∈ Z.ts) (np : Z.p ∉ Z.ts)
    (F1 : Fns K mg "need_number" ["value"] sNeedNumber fNN dNN) (F2 : Fns K mg "is_number" ["value"] sIsNumber fNum dNum) (F3 : Fns K mg "is_integer" ["value"] sIsInteger fInt dInt) (F4 : Fns K mg "is_sequence" ["value"] sIsSequence fSq dSq)
    (F5 : Fns K mg "is_size" ["value"] sIsSize fSz dSz) (F6 : Fns K mg "is_reading" ["value"] sIsReading fRd dRd) : FnOk P w K mg base CX0 6 f fd ["first", "values"] (spSpanOf K Z) := by
  have G1 : FnOk P w K mg base CX0 3 fNN dNN ["value"] (spV pNat) := ok_need_number M G F1.fn F2 F3
  have G4 : FnOk P w K mg base CX0 1 fSq dSq ["value"] (spPure P w base ["value"] pSequence) := (pf_is_sequence M G F4.fn).ok
  have G5 : FnOk P w K mg base CX0 3 fSz dSz ["value"] (spPure P w base ["value"] pSize) := (pf_is_size M G F5.fn F2 F3).ok
  have G6 : PF P w K mg base 2 fRd dRd ["value"] pReading := pf_is_reading M G V' F6.fn F3
  refine F.ok scSpanOf (fun vs H Q E h => ?_) (fun A outer s H vs Q E hr h => ?_)
  · obtain ⟨f0, e, v, rfl, _⟩ := h
    rfl
  · obtain ⟨f0, e, v, rfl, he, hv, hz, kk⟩ := h
    refine ⟨_, pss_cons (ps_expr (pe_call G1 (hr.mono (by decide)) (by rfl) F1.mg F1.fn.kp F1.bd .nil pass0 (pa_cons (pv 0) pa_nil)))
      (pss_cons (ps_if (PW.pt (pw_or (pt_not (pt_val (pe_call G4 (hr.mono (by decide)) (by rfl) F4.mg F4.fn.kp F4.bd .nil pass0 (pa_cons (pv 1) pa_nil))))
        (pw_or (pt_not (pt_val (pe_call G5 (hr.mono (by decide)) (by rfl) F5.mg F5.fn.kp F5.bd .nil pass0 (pa_cons (pe_callB call_len_seq (by rfl) G.len PySem.boot_len (pa_cons (pv 1) pa_nil)) pa_nil))))
          (pw_or1 (pt_not (pt_val (pe_allQ (k := 2) (T := T) (c := c) (hr.mono (by decide)) (by rfl) G.all TB rfl (GenS.of rfl rfl (by decide +kernel) rfl rfl (by decide +kernel)) (pv 1)))))))) pss_never pss_nil)
      (pss_one (ps_ret (pe_tup (pa_cons (pv 0) (pa_cons (pe_callB call_len_seq (by rfl) G.len PySem.boot_len (pa_cons (pv 1) pa_nil)) (pa_cons (pe_callB (cr_sum rfl) (by rfl) hsum boot_sum (pa_cons (pv 1) pa_nil)) (pa_cons (pe_callB (cr_min rfl) (by rfl) G.min boot_min (pa_cons (pv 1) pa_nil)) (pa_cons (pe_callB (cr_max rfl) (by rfl) G.max boot_max (pa_cons (pv 1) pa_nil)) pa_nil))))))))), ?_⟩
    refine q_drop (v := .non) (ev_call (ea_cons (ev_var rfl) ea_nil) (spV.use fun H1 _ => ⟨f0, rfl, by omega, rfl⟩)) fun H1 e1 => ?_
    have he1 := ex_l e1 he
    have hz1 := hz.ex e1
    have hl : 0 < v.length := by obtain ⟨i, hi⟩ := hv.1; rw [hi]; exact Nat.two_pow_pos i
    have q1 : EvT (tNot (tB (tCall (spPure P w base ["value"] pSequence) [] E0 (tCons (tVar 1) tNil)))) (start ["first", "values"] [.int (f0 : Int), .ref e]) H1 (!true) := et_not (et_B (ev_call (ea_cons (ev_var rfl) ea_nil) (spPure.use rfl fun H1 e h ok bx => by
        obtain ⟨bb, its, rv, sq⟩ := TyG.of_sq ok (M.kin.keeps bx) (.inr (ex_l e he1))
        exact ⟨_, _, rfl, TyG.seq sq, by cases bb <;> rfl⟩)))
    refine t_orF q1 fun H2 e2 => ?_
    have he2 := ex_l e2 he1
    refine t_orN (et_not (et_B (ev_call (ea_cons (ev_cb (ea_cons (ev_var rfl) ea_nil) (rc_lenE (.inl he2))) ea_nil) (spPure.use rfl fun H1 e h ok bx => ⟨_, _, rfl, .int _, by
        obtain ⟨i, hi⟩ := hv.1
        rw [List.length_map, hi, sizeB_pow]⟩)))) fun H3 e3 => ?_
    have he3 := ex_l e3 he2
    have hz3 := (hz1.ex e2).ex e3
    refine ⟨.ref e, rfl, e, v.map V.int, fun _ => true, rfl, .inr he3, hz3.gs T hT, ?_, fun H4 t4 => ?_⟩
    · intro B' cenv g i v' u hrm hs hg' hb hx hn hi rv ok
      obtain ⟨m, ns, hm⟩ := hn
      have FR : FrP K mg base B' cenv g := ⟨M, hx, by rw [hs], hg', hb, hrm.hd⟩
      rw [List.getElem?_map, Option.map_eq_some_iff] at hi
      obtain ⟨y, hy, rfl⟩ := hi
      have hb := hv.2.2 y (List.mem_of_getElem? hy)
      have val : ∀ {pos : Pos}, EV P w B' cenv g (.Name "value" pos) (.int y) := ev_loc FR (by show cenv.scope.names.lookup _ = _; rw [hs]; rfl) ns hm rv
      exact ev_pf FR G6 hrm (by show cenv.scope.names.lookup _ = _; rw [hs]; rfl) F6.mg F6.fn.kp F6.bd (Pu.ea_cons val Pu.ea_nil) rfl fun h e => ⟨_, _, rfl, .int y, by
        show V.bl true = V.bl (decide (-1000000 ≤ y) && decide (y ≤ 1000000))
        rw [decide_eq_true hb.1, decide_eq_true hb.2]; rfl⟩
    · have e6 : (List.range (v.map V.int).length).all (fun _ => true) = true := by simp
      refine ⟨_, rfl, ?_⟩
      show if (!(List.range (v.map V.int).length).all fun _ => true) = true then _ else _
      rw [e6]
      rw [if_neg (by decide)]
      have x3 : Go Z [] H H3 := Go.ex hz ((e1.trans e2).trans e3)
      have x4 : Go Z [] H H4 := x3.trans (Go.tab hz3 hT np t4)
      have he4 : SqL K H4 e (v.map V.int) := kp_L (Z := Z) (M := []) (List.not_mem_nil) he H4 x4
      refine ⟨_, rfl, .ref e, rfl, e, _, rfl, .inl he4, .ref e, rfl, e, _, rfl, he4, .ref e, rfl, e, _, rfl, he4, hl, fun lo m1 m2 => ⟨.ref e, rfl, e, _, rfl, he4, hl, fun hi m3 m4 => ⟨by show 5 ≤ sizeLine; decide, fun p hp => ?_⟩⟩⟩
      have e1 : lo = lmin v := lmin_uniq m1 m2
      have e2 : hi = lmax v := lmax_uniq m3 m4
      subst e1 e2
      refine kk p _ (x4.fr p hp) (x4.trans (Go.new x4.ok hp)) ?_
      rw [List.length_map]
      exact upd_same
end
end K08
set_option Elab.async false
set_option linter.all false
set_option maxRecDepth 100000
set_option maxHeartbeats 4000000
namespace Pu
open PySem PySem.Spec PyProof.Rows L2
/-- the empty set as it is made -/
def bareSet (w : World) : Obj := { cls := .type "set", dict := none, data := .set #[] 0 (.fresh 0 0 (!w.params.followText "set-order")) }
section
variable {P : Program} {w : World} {A : Around} {E : Value → Shared → Prop} {s : Shared}
/-- set(x) of a list of ints: the way of the library's rule for tuples (SetFor), for lists -/
theorem set_of_ints {l : Addr} {xs : Array Value} (zs : List Int) {Q : Value → Shared → Prop} (free : A.handled = none) (isl : s.heap.IsList l xs) (itz : IntsAre xs.toList zs) (few : zs.length + 1 < scanBound)
    (k : ∀ (g : Heap) (tk c : Nat), SetR w g s.heap.objs.size (fun j => decide (j ∈ zs)) c → (∀ b o, s.heap.get? b = some o → g.get? b = some o) → Q (.ref s.heap.objs.size) { s with heap := g, toks := tk }) :
    wpAny (model P w) A (call (.type "set") [.ref l]) Q E s := by
  have size : xs.size = zs.length := by rw [← Array.length_toList]; exact IntsAre.length itz
  obtain ⟨c, tl, mro⟩ := F.called_set.mro
  have a1 := F.called_set.made; have a2 := F.called_set.sub
  refine wpAny_call (codeAny_of_tree ?_)
  show wpAny _ _ (callAny (.type "set") ⟨[.ref l], []⟩) _ _ _
  refine wpAny_pure ⟨Code.quiet_builtin _ (by decide +kernel), codeAny_builtin F.entry_type_call ?_⟩; rw [Around.under_plain (weight_type_call_type "set" [.ref l] []) rfl]
  have a3 := F.called_set.notType; have a4 := F.called_set.canCreate; have a5 := F.typeCall_set_1 (.ref l); repeat (any_goals (first | assumption | wp_step))
  refine codeAny_mono (code_set_led1 (.ref l) (E := E) (Q₁ := fun v t => v = .ref s.heap.objs.size ∧ t = { s with heap := s.heap.push (bareSet w) }) ⟨rfl, rfl⟩) fun r t hr => ?_
  match r, hr with
  | .error e, hr => exact hr
  | .ok (.next), hr => exact hr.elim
  | .ok (.brk), hr => exact hr.elim
  | .ok (.cont), hr => exact hr.elim
  | .ok (.ret v), hr =>
    obtain ⟨rfl, rfl⟩ := hr
    have at0 : (s.heap.push (bareSet w)).get? s.heap.objs.size = some (bareSet w) := Heap.get?_push_size _ rfl
    have ty : Shared.TypeIs { s with heap := s.heap.push (bareSet w) } (.ref s.heap.objs.size) "set" := ⟨_, at0, rfl⟩
    have b1 := F.called_set.init.lookup; have b2 := F.called_set.init.bind (.ref s.heap.objs.size); repeat (any_goals (first | assumption | wp_step))
    refine codeAny_mono (codeAny_call_builtin (R := wants (fun r t => r = .none ∧ ∃ g tk c, t = { s with heap := g, toks := tk } ∧ SetR w g s.heap.objs.size (fun j => decide (j ∈ zs)) c ∧
        (∀ b o, s.heap.get? b = some o → g.get? b = some o)) E) F.called_set.init.plain F.entry_set_init (check_set_init_1 ty ?_)) fun r2 t2 hr2 => ?_
    · obtain ⟨⟨oc, od, odt, osl⟩, ho, hc, nl, hd⟩ := isl
      dsimp only at hc hd; subst hc; subst hd
      have old : (s.heap.push (bareSet w)).get? l = some { cls := .type "list", dict := od, data := .seq xs nl, slots := osl } := Heap.get?_push_of_some _ ho
      have c1 := F.sub_list_set; have c2 := F.sub_list_frozenset; have c3 : (Value.type "list" == Value.type "dict") = false := by decide
      have isl1 : (s.heap.push (bareSet w)).IsList l xs := ⟨_, old, rfl, nl, rfl⟩
      unfold Builtin.«set.__init__» noKeywords Builtin.Frozenset.updateFrom
      generalize it : pyIter = PI; wp_walk; subst it
      refine wpAny_pyIter_list isl1 (wpAny_bind (wpAny_runValue ?_))
      have ll : l < s.heap.objs.size := Heap.lt_size ho
      have free3 : A.in1.in1.in1.handled = none := by simp [free]
      have ne : l ≠ (s.heap.push (bareSet w)).objs.size := by rw [Heap.size_push]; exact Nat.ne_of_lt (Nat.lt_succ_of_lt ll)
      have nin : s.heap.objs.size ∉ [(s.heap.push (bareSet w)).objs.size, l] := by
        rw [Heap.size_push]
        intro z
        rcases List.mem_cons.mp z with z | z
        · exact absurd z (Nat.ne_of_lt (Nat.lt_succ_self _))
        · exact absurd (List.mem_singleton.mp z) (Nat.ne_of_gt ll)
      have each : ∀ (i : Nat) (v : Value), xs[i]? = some v → ∃ k t, zs[i]? = some k ∧ v = .int k t := fun i v hv => by
        have hi : i < zs.length := by rw [← size]; exact (Array.getElem?_eq_some_iff.mp hv).1
        obtain ⟨t, e⟩ := PyProof.Rows.IntsAre.int_at itz i v (by rw [Array.getElem?_toList]; exact hv)
        exact ⟨zs[i], t, List.getElem?_eq_getElem hi, by rw [e, List.getD_eq_getElem?_getD, List.getElem?_eq_getElem hi] <;> rfl⟩
      refine set_update_ints ((Walks.list free3 _ l ne xs).toS) s.heap.objs.size nin zs size few each (xs.size - 0) 0 _ (by omega) (Nat.zero_le _) ⟨⟨_, Heap.get?_push_size _ rfl, rfl, rfl⟩, (isl1.push _)⟩ ?_ ?_
      · exact ⟨0, Nat.le_refl 0, setR_new_at (Heap.get?_push_of_some _ at0)⟩
      · intro t c' mv _ hS
        obtain ⟨g, g2, d2, k2, o2⟩ := t
        have e1 : g2 = s.gens := mv.gens
        have e2 : d2 = s.drawn := mv.drawn
        have e3 : o2 = s.os := mv.os
        subst e1 e2 e3
        show wpAny _ _ _ _ _ _
        refine wpAny_pure ?_
        show wpAny _ _ (ret Value.none) _ _ _
        refine wpAny_pure ⟨rfl, g, k2, c', rfl, hS, fun b o e => ?_⟩
        have hb : b < s.heap.objs.size := Heap.lt_size e
        refine mv.heap b o (fun z => ?_) (Heap.get?_push_of_some _ (Heap.get?_push_of_some _ e))
        rcases List.mem_cons.mp z with z | z
        · exact absurd z (Nat.ne_of_lt hb)
        · rw [Heap.size_push] at z
          exact absurd (List.mem_singleton.mp z) (Nat.ne_of_lt (Nat.lt_succ_of_lt hb))
    · match r2, hr2 with
      | .error e, hr2 => exact hr2
      | .ok (.next), hr2 => exact hr2.elim
      | .ok (.brk), hr2 => exact hr2.elim
      | .ok (.cont), hr2 => exact hr2.elim
      | .ok (.ret v), hr2 =>
        obtain ⟨rfl, g, tk, c', rfl, hS, kp⟩ := hr2
        (repeat (any_goals (first | assumption | wp_step))); exact k _ _ _ hS kp
end
end Pu
set_option Elab.async false
set_option linter.all false
set_option maxRecDepth 100000
set_option maxHeartbeats 4000000
namespace Pu
open PySem PySem.Spec PyProof.Rows L2 GxR
theorem nodup_le : ∀ {l m : List Int}, l.Nodup → (∀ x ∈ l, x ∈ m) → l.length ≤ m.length
  | [], _, _, _ => Nat.zero_le _
  | x :: l, m, hn, h => by
    have hx := h x (List.mem_cons_self ..)
    have n2 := List.nodup_cons.mp hn
    have ih := nodup_le (l := l) (m := m.erase x) n2.2 fun y hy => (List.mem_erase_of_ne (fun e => n2.1 (by rw [← e]; exact hy))).mpr (h y (List.mem_cons_of_mem _ hy))
    rw [List.length_erase_of_mem hx] at ih
    have : 0 < m.length := List.length_pos_of_mem hx
    rw [List.length_cons]
    omega
section
variable {X : Cx}
/-- sorted(set(x)), x a list of numbers below 63 -/
def tSortSet (K : PySem.W.Frag) (ta : TE) : TE := fun σ H Q => ta σ H fun x H1 => ∃ (l : Addr) (ns : List Int), x = .ref l ∧ SqL K H1 l (ns.map V.int) ∧ ns.length ≤ 4000 ∧ (∀ k ∈ ns, 0 ≤ k ∧ k < 63) ∧
  ∀ (ms : List Int) (p : Addr), ms.Pairwise (· < ·) → (∀ k : Int, k ∈ ms ↔ k ∈ ns) → H1 p = none → Q (.ref p) (upd H1 p (.lst (ms.map V.int)))
theorem setR_few {w : World} {h : Heap} {a : Addr} {ns : List Int} {c : Nat} (R : SetR w h a (fun j => decide (j ∈ ns)) c) (hb : ∀ k ∈ ns, 0 ≤ k ∧ k < 63) : c < 64 := by
  obtain ⟨o, es, ep, t, _, _, _, _, nd, mem, _, _, hn, _⟩ := R
  have h1 : (es.toList.map keyOf).length ≤ ((List.range 63).map fun i : Nat => (i : Int)).length := nodup_le nd fun k hk => by
    have := hb k (of_decide_eq_true ((mem k).mpr hk))
    exact List.mem_map.mpr ⟨k.toNat, List.mem_range.mpr (by omega), by omega⟩
  rw [List.length_map, List.length_map, List.length_range, Array.length_toList, hn] at h1
  omega
theorem sort_step {pins : List (Addr × Obj)} {s : Shared} {σ : L2.St} {H : Hp} {a : Addr} {S : Int → Bool} {c : Nat} {Q : VK} {E : Value → Shared → Prop} (hc : X.calm = true) (I : Inv X pins σ H s) (R : SetR X.w s.heap a S c) (h64 : c < 64)
    (q1 : ∀ (ms : List Int) (p : Addr), ms.Pairwise (· < ·) → (∀ k : Int, k ∈ ms ↔ S k = true) → H p = none → Q (.ref p) (upd H p (.lst (ms.map V.int)))) : wpAny (model X.prog X.w) X.A (call (.builtin "sorted") [.ref a]) (EP X pins σ Q) E s := by
  refine sorted_set R (I.ok.hd hc) h64 fun s' p out cc ms k g o hp hg' hi hs hm' hl' => ?_
  have hlt : (ms.map V.int).length ≤ sizeLine := by
    rw [List.length_map, hl', sizeLine_eq]
    omega
  have hn : H p = none := I.hok.fresh hp
  have J : Inv X pins σ (upd H p (.lst (ms.map V.int))) { s with heap := s'.heap, gens := s'.gens, drawn := s'.drawn, toks := s'.toks } := I.call (ch := []) (Un.laid k hp hn) (I.hok.laid k hp ⟨hlt, out.toList, cc, vals_of_ints hi, hg'⟩) (by rw [g]; exact I.bare) (fun _ z => nomatch z)
  have e : s' = { s with heap := s'.heap, gens := s'.gens, drawn := s'.drawn, toks := s'.toks } := by cases s'; cases s; cases o; rfl
  rw [e]
  exact ⟨.ref p, _, J, rfl, q1 ms p hs hm' hn⟩
theorem pe_sortSet {a : Expr} {ta : TE} {p p2 q pos : Pos} (hg : Gl X "sorted") (hm : X.mg "sorted" = none) (hg2 : Gl X "set") (hm2 : X.mg "set" = none) (ha : PE X a ta) (hc : X.calm = true := by rfl)
    (na : starEach [a] X.env = (false, eval a X.env) :: starEach [] X.env := by rfl) : PE X (.Call (.Name "sorted" p) [.Call (.Name "set" p2) [a] [] q] [] pos) (tSortSet X.K ta) := by
  refine ⟨fun pins s σ H Q I h => Call_ (ld_blt I hg hm boot_sorted (PyProof.Rows.callWith_builtin1 (PyProof.Rows.args_cons (Call_ (ld_blt I hg2 hm2 boot_set ?_)) rfl) rfl rfl))⟩
  refine PyProof.Rows.callWith_type1 (PyProof.Rows.args_cons (thn (ha.run pins s σ H _ I h) fun v s1 ⟨x, H1, I1, r1, q1⟩ => PyProof.Rows.args_nil ?_) na) na rfl
  obtain ⟨l, ns, rfl, hq, hl, hb, q1⟩ := q1
  cases (show v = Value.ref l from r1)
  obtain ⟨its, r, pl, hz⟩ := I1.list hq
  have hlen : its.toArray.size = ns.length := by rw [List.size_toArray, ← r.length, List.length_map]
  refine set_of_ints ns (I1.ok.hd hc) pl.isList (by simpa using RZ.intsAre_vals r) (by unfold scanBound; omega) fun h' tk c hS hk => PyProof.Rows.args_nil ?_
  have I2 : Inv X pins σ H1 { s1 with heap := h', toks := tk } := I1.kept fun b o e => hk b o e
  exact sort_step hc I2 hS (setR_few hS hb) fun ms p' hs hm' hn => q1 ms p' hs (fun k => by rw [hm' k]; exact decide_eq_true_iff) hn
end
end Pu
set_option Elab.async false
set_option linter.all false
set_option maxRecDepth 100000
set_option maxHeartbeats 4000000
namespace Pu
open PySem PySem.Spec PyProof.Rows L2 GxR Evl
def bodyOf : Stmt → List Stmt
  | .For _ _ b _ _ => b
  | .If _ b _ _ => b
  | _ => []
/-- a step of the law, told by the turn i -/
def Ti (X : Cx) (st : Stmt) (A B : Nat → L2.St → Hp → Prop) : Prop := ∃ t, PS X st t ∧ ∀ i D σ H, A i σ H → (∀ σ' H', B i σ' H' → D.nx σ' H') → t D σ H
def Tis (X : Cx) (l : List Stmt) (A B : Nat → L2.St → Hp → Prop) : Prop := ∃ t, PSs X l t ∧ ∀ i D σ H, A i σ H → (∀ σ' H', B i σ' H' → D.nx σ' H') → t D σ H
theorem Tis.cons {X : Cx} {st : Stmt} {l : List Stmt} {A B C : Nat → L2.St → Hp → Prop} (h : Ti X st A B) (k : Tis X l B C) : Tis X (st :: l) A C := by
  obtain ⟨t, h1, h2⟩ := h
  obtain ⟨u, k1, k2⟩ := k
  exact ⟨_, pss_cons h1 k1, fun i D σ H a q => h2 i { D with nx := u D } σ H a fun σ' H' b => k2 i D σ' H' b q⟩
theorem Tis.one {X : Cx} {st : Stmt} {A B : Nat → L2.St → Hp → Prop} (h : Ti X st A B) : Tis X [st] A B := by
  obtain ⟨t, h1, h2⟩ := h
  exact ⟨_, pss_one h1, h2⟩
theorem wipe1 {σ : L2.St} {j : Nat} {x : Option V} : wipe ((wipe σ [j]).set j x) [j] = wipe σ [j] := by
  show ((σ.set j none).set j x).set j none = σ.set j none
  rw [List.set_set, List.set_set]
theorem wipe_at {σ : L2.St} {j : Nat} {x : V} (h : j < σ.length) : ((wipe σ [j]).set j (some x))[j]? = some (some x) := sl_eq (by show j < (σ.set j none).length; rw [List.length_set]; exact h)
theorem wipe_ne {σ : L2.St} {i j : Nat} {x : Option V} {y : V} (h : σ[i]? = some (some y)) (n : j ≠ i) : ((wipe σ [j]).set j x)[i]? = some (some y) := sl_ne (sl_ne h n) n
theorem wipe_len {σ : L2.St} {j : Nat} {x : Option V} : ((wipe σ [j]).set j x).length = σ.length := by
  rw [List.length_set]
  show (σ.set j none).length = _
  rw [List.length_set]
theorem Sm.intI {a : Int} (h0 : 0 ≤ a) (h : a ≤ 1000000) : Sm 0 0 (.int a) := by
  obtain ⟨n, rfl⟩ := Int.eq_ofNat_of_zero_le h0
  exact Sm.int (by omega)
/-- a comprehension whose turns may change the heap: an invariant of the turn, the heap, what is made -/
theorem lc_inv {J : It} {n : Nat} {G : Hp → Prop} {Y : Nat → Hp → V → Hp → Prop} (w : Walk J n G Y) {g : TG} {tt : TT} {te : TE} {vs : List Nat} {σ : L2.St} {H1 : Hp} {D : Addr} {Qd : Hp → Prop} (R : Nat → Hp → List V → Prop) (hn : n ≤ 40000)
    (h0 : R 0 (upd H1 D (.lst [])) []) (hG : ∀ i H acc, R i H acc → G H)
    (turn : ∀ i x H H' acc, i < n → H D = some (.lst acc) → R i H acc → Y i H x H' → ∀ (Qy : V → Hp → Prop) (Qn : Hp → Prop), (∀ y H4, H4 D = some (.lst acc) → R (i + 1) (upd H4 D (.lst (acc ++ [y]))) (acc ++ [y]) → Qy y H4) → (∀ H3, H3 D = some (.lst acc) → R (i + 1) H3 acc → Qn H3) →
      g x (wipe σ vs) H' fun σ2 H2 => wipe σ2 vs = wipe σ vs ∧ tt σ2 H2 fun b H3 => if b = true then te σ2 H3 Qy else Qn H3)
    (hd : ∀ H acc, H D = some (.lst acc) → R n H acc → Qd H) :
    ∃ W : Nat → Nat → Hp → Prop, (∃ m, W 0 m (upd H1 D (.lst []))) ∧ ∀ i m H, W i m H →
      (J.stop i H ∧ Qd H) ∨ (J.go i H ∧ ∃ Nx : Hp → Prop, (∀ H', Nx H' → ∃ m', m' < m ∧ W (i + 1) m' H') ∧ ∀ x H', J.yld i H x H' → g x (wipe σ vs) H' fun σ2 H2 => wipe σ2 vs = wipe σ vs ∧ tt σ2 H2 fun b H3 =>
        if b = true then te σ2 H3 fun y H4 => ∃ acc, H4 D = some (.lst acc) ∧ acc.length < sizeLine ∧ Nx (upd H4 D (.lst (acc ++ [y]))) else Nx H3) := by
  refine lc_it w (fun i H => ∃ acc, H D = some (.lst acc) ∧ acc.length ≤ i ∧ R i H acc) ⟨[], upd_same, Nat.le_refl _, h0⟩ (fun i H _ p => ?_) (fun i x H H' hi p y => ?_) fun H p => ?_
  · obtain ⟨acc, _, _, r⟩ := p
    exact hG i H acc r
  · obtain ⟨acc, hH, hl, hR⟩ := p
    refine turn i x H H' acc hi hH hR y _ _ (fun v H4 h4 r4 => ?_) fun H3 h3 r3 => ⟨acc, h3, Nat.le_succ_of_le hl, r3⟩
    refine ⟨acc, h4, Nat.lt_of_le_of_lt (show acc.length ≤ 40000 by omega) (by decide), acc ++ [v], upd_same, ?_, r4⟩
    rw [List.length_append, List.length_singleton]
    omega
  · obtain ⟨acc, hH, _, hR⟩ := p
    exact hd H acc hH hR
end Pu
set_option Elab.async false
set_option linter.all false
set_option maxRecDepth 100000
set_option maxHeartbeats 4000000
namespace Pu
open PySem PySem.Spec PyProof.Rows L2 GxR Evl
/-- of two iterations the reader takes one -/
theorem pi_or {X : Cx} {tg it : Expr} {t t' : TI} (h : PI X tg it t) (h' : PI X tg it t') : PI X tg it (fun σ H R => t σ H R ∨ t' σ H R) :=
  ⟨fun pins s σ H R I q => q.elim (fun q => h.run pins s σ H R I q) fun q => h'.run pins s σ H R I q⟩
/-- a list or a tuple is given -/
def Es (K : PySem.W.Frag) (tl : TE) (σ : L2.St) (H : Hp) (xs : List V) : Prop := ∀ H1, Ex H H1 → ∀ Q : VK, (∀ a H2, Ex H1 H2 → SqE K H2 a xs → Q (.ref a) H2) → tl σ H1 Q
variable {K : PySem.W.Frag} {tl te : TE} {tt : TT} {σ : L2.St} {H H' : Hp} {xs : List V} {a : Addr} {j : Nat}
theorem Es.var {i : Nat} (h : σ[i]? = some (some (.ref a))) (q : SqE K H a xs) : Es K (tVar i) σ H xs := fun H1 e Q k => ⟨_, h, k a H1 (Ex.refl H1) (q.ex e)⟩
theorem Es.ofL (h : EvL tl σ H xs) : Es K tl σ H xs := fun H1 e Q k => h H1 e Q fun p H2 _ e2 hp => k p H2 e2 (.inr (SqL.of hp))
theorem Es.ofU (h : EvU tl σ H xs) : Es K tl σ H xs := fun H1 e Q k => h H1 e Q fun p H2 _ e2 hp => k p H2 e2 (.inl (SqT.of hp))
theorem es_sl {th tl2 : TO} {lo hi : Option Int} (h : Ev te σ H (.ref a)) (h1 : EvO tl2 σ H lo) (h2 : EvO th σ H hi) (hs : SqE K H a xs) (hw : ¬ (HT.sIx xs.length 0 lo = 0 ∧ HT.sIx xs.length xs.length hi = xs.length)) : Es K (tSl (fun x lo hi H Q => rSlL K x lo hi H Q ∨ rSlT K x lo hi H Q) te tl2 th) σ H (cutV xs lo hi) := fun H1 e Q k =>
  h H1 e _ fun H2 e2 => h1 H2 (e.trans e2) _ fun H3 e3 => h2 H3 ((e.trans e2).trans e3) _ fun H4 e4 => by
    have q := (((hs.ex e).ex e2).ex e3).ex e4
    rcases q with q | q
    · exact .inr ⟨a, xs, rfl, q, hw, fun p hp => k p _ (((e2.trans e3).trans e4).trans (Ex.new hp)) (.inl (SqT.of upd_same))⟩
    · exact .inl ⟨a, xs, rfl, q, fun p hp => k p _ (((e2.trans e3).trans e4).trans (Ex.new hp)) (.inr (SqL.of upd_same))⟩
theorem q_ifCB {r : List V → Hp → VK → Prop} {tu tw : TS} {D : Ends} (el : EvL te σ H xs) (k : ∀ p H1, Ex H H1 → H1 p = some (.lst xs) → r [.ref p] H1 (fun x H2 => ∃ b, x = .bl b ∧ (if b = true then tu D σ H2 else tw D σ H2))) : tIfS (tB (tCB r (tCons te tNil))) tu tw D σ H :=
  el H (Ex.refl H) _ fun p H1 _ e h => k p H1 e h
theorem s_retCB {r : List V → Hp → VK → Prop} {D : Ends} (el : EvL te σ H xs) (k : ∀ p H1, Ex H H1 → H1 p = some (.lst xs) → r [.ref p] H1 D.rt) : tRet (tCB r (tCons te tNil)) D σ H :=
  el H (Ex.refl H) _ fun p H1 _ e h => k p H1 e h
theorem ev_cbL {r : List V → Hp → VK → Prop} {z : V} (el : EvL te σ H xs) (hr : ∀ p H1, H1 p = some (.lst xs) → RC r [.ref p] H1 z) : Ev (tCB r (tCons te tNil)) σ H z :=
  fun H1 e Q q => el H1 e _ fun p H2 _ e2 h2 => hr p H2 h2 H2 (Ex.refl _) Q fun H3 e3 => q H3 (e2.trans e3)
theorem ev_opU1 {r : R2} {ta tb : TE} {y z : V} (ha : EvU ta σ H xs) (hb : ∀ H1, Ex H H1 → Ev tb σ H1 y) (hr : ∀ p H1, H1 p = some (.tup xs) → RV r (.ref p) y H1 z) : Ev (tOp r ta tb) σ H z := fun H1 e Q q =>
  ha H1 e _ fun p H2 _ e2 h2 => hb H2 (e.trans e2) H2 (Ex.refl _) _ fun H3 e3 => hr p H3 (e3 _ _ h2) H3 (Ex.refl _) Q fun H4 e4 => q H4 ((e2.trans e3).trans e4)
theorem nx_of {D : Ends} (h : D.nx σ H) : tNext D σ H := h
theorem et_yes : EvT tYes σ H true := fun H1 _ _ q => q H1 (Ex.refl H1)
theorem el_lcS (f : Nat → Bool) (v : Nat → V) (h : Es K tl σ H xs) (hl : xs.length ≤ 40000) (ht : ∀ i x H', xs[i]? = some x → Ex H H' → EvT tt (σ.set j (some x)) H' (f i))
    (he : ∀ i x H', xs[i]? = some x → Ex H H' → f i = true → Ev te (σ.set j (some x)) H' (v i)) : EvL (tLc (iSeq K tl) (gName j) tt te [j]) σ H (given xs.length f v) := fun H1 e Q q =>
  h H1 e _ fun a H2 e2 sq => ⟨a, xs, rfl, sq, fun J Gd wk hG D' hD => by
    refine lc_gen wk (fun m H' acc => acc = given m f v) hl hD (fun _ _ _ _ _ _ r => r) rfl hG ?_ ?_
    · intro i x Ha Hb acc hi ex y hR Qy Qn hy hn
      obtain ⟨rfl, hx⟩ := y
      have es : (wipe σ [j]).set j (some x) = σ.set j (some x) := by show (σ.set j none).set j _ = _; rw [List.set_set]
      have e0 := (e.trans e2).trans ex
      refine ⟨wipe1, ?_⟩
      rw [es]
      refine ht i x _ hx e0 _ (Ex.refl _) _ fun H3 e3 => ?_
      cases hf : f i with
      | true =>
        rw [if_pos rfl]
        refine he i x _ hx (e0.trans e3) hf _ (Ex.refl _) _ fun H4 e4 => hy _ _ (e3.trans e4) ?_
        rw [hR, given_yes hf]
      | false =>
        rw [if_neg (by decide)]
        refine hn _ e3 ?_
        rw [hR, given_no hf]
    · intro H4 acc e4 hD4 hR
      exact q D' H4 (ex_fresh e2 hD) (e2.trans e4) (by rw [hD4, hR])⟩
theorem given_all {n : Nat} (v : Nat → V) : given n (fun _ => true) v = (List.range n).map v := by
  unfold given
  rw [List.filter_eq_self.mpr (fun _ _ => rfl)]
theorem el_lcA (v : Nat → V) (h : Es K tl σ H xs) (hl : xs.length ≤ 40000) (he : ∀ i x H', xs[i]? = some x → Ex H H' → Ev te (σ.set j (some x)) H' (v i)) : EvL (tLc (iSeq K tl) (gName j) tYes te [j]) σ H ((List.range xs.length).map v) := by
  rw [← given_all]
  exact el_lcS (fun _ => true) v h hl (fun _ _ _ _ _ => et_yes) fun i x H' h1 h2 _ => he i x H' h1 h2
end Pu
set_option Elab.async false
set_option linter.all false
set_option maxRecDepth 100000
set_option maxHeartbeats 4000000
namespace K08
open PySem PySem.Spec PyProof.Rows L2 GxR Pu Evl
def NestP (L : List S5) : Prop := ∀ (i j : Nat) (s o : S5), i < j → L[i]? = some s → L[j]? = some o → clear s o = true
abbrev nNest : List Str := ["value", "at", "span", "other"]
theorem scAreNested : FnScope nNest ["value"] (defScope sAreNested) := ⟨rfl, rfl, rfl, by decide +kernel, rfl, by decide +kernel, by decide +kernel⟩
def spNested (K : PySem.W.Frag) (Z : Tx) : Sp := fun vs H Q _ => ∃ (x : V), vs = [x] ∧ Z.Ok H ∧ ((AreS K H x false ∧ ∀ H', Go Z [] H H' → Q (.bl false) H') ∨
  ∃ (e : Addr) (xs : List V) (L : List S5), x = .ref e ∧ SqE K H e xs ∧ Paired (SpE K H) L xs ∧ (∀ s ∈ L, s.Ok) ∧ L.length ≤ 1000 ∧ ∀ (b : Bool) H', Go Z [] H H' → (b = true ↔ NestP L) → Q (.bl b) H')
theorem SqE.go {K : PySem.W.Frag} {Z : Tx} {H H' : Hp} {a : Addr} {xs : List V} (h : SqE K H a xs) (g : Go Z [] H H') : SqE K H' a xs :=
  h.imp (fun q => kp_T (Z := Z) (M := []) Ls.nil q H' g) fun q => kp_L (Z := Z) (M := []) List.not_mem_nil q H' g
theorem SpE.go {K : PySem.W.Frag} {Z : Tx} {H H' : Hp} {s : S5} {v : V} (h : SpE K H s v) (g : Go Z [] H H') : SpE K H' s v := by
  obtain ⟨b, rfl, q⟩ := h
  exact ⟨b, rfl, SqE.go q g⟩
section
variable {P : Program} {w : World} {K : PySem.W.Frag} {mg : Str → Option Value} {base : Heap} {Z : Tx}
variable {fAS fCl : Addr} {dAS dCl : FuncData}
theorem range_bl (bs : List Bool) : (List.range bs.length).map (fun k => V.bl (bs.getD k false)) = bs.map V.bl := by
  apply List.ext_getElem?
  intro k
  rw [List.getElem?_map, List.getElem?_map]
  by_cases h : k < bs.length
  · rw [List.getElem?_range h, List.getElem?_eq_getElem h, Option.map_some, Option.map_some, List.getD_eq_getElem?_getD, List.getElem?_eq_getElem h]
    rfl
  · rw [List.getElem?_eq_none (by simpa using h), List.getElem?_eq_none (by omega)]
    rfl
theorem cut_from {xs : List V} {i : Nat} (hi : i < xs.length) : cutV xs (some ((i : Int) + 1)) none = xs.drop (i + 1) := by
  unfold cutV
  have e : (i : Int) + 1 = ((i + 1 : Nat) : Int) := by omega
  rw [e, HT.sIx_nat, HT.sIx_none, Nat.min_eq_left (by omega), List.take_of_length_le (by rw [List.length_drop]; omega)]
theorem ok_are_nested {f : Addr} {fd : FuncData} (G : Mg mg) (F : Fun K "are_nested" "are_nested" sAreNested f fd) (C1 : Cal P w K mg base "are_spans" ["value"] sAreSpans 6 (spAreS K Z) fAS dAS)
    (C2 : Cal P w K mg base "are_clear" ["one", "other"] sAreClear 3 (spTwo K clear) fCl dCl) : FnOk P w K mg base CX0 7 f fd ["value"] (spNested K Z) := by
  refine F.ok scAreNested (fun vs H Q E h => ?_) (fun cdv A outer s H vs Q E hr h => ?_)
  · obtain ⟨x, rfl, _⟩ := h
    rfl
  · obtain ⟨x, rfl, hz, h⟩ := h
    refine ⟨_, (pss_cons (ps_if (pt_not (pt_val (pe_call C1.ok (hr.mono (by decide)) (by rfl) C1.ns.mg C1.ns.fn.kp C1.ns.bd .nil pass0 (pa_cons (pv 0) pa_nil)))) (pss_one (ps_ret pe_bl)) pss_nil)
      (pss_cons (ps_for PassesOwn.never rfl (pi_or (pi_enum (by rfl) G.enumerate (pa_cons (pv 0) pa_nil)) (pi_enumT (by rfl) G.enumerate (pa_cons (pv 0) pa_nil))) (pg_seq rfl (pgs_cons (pg_name (i := 1) scAreNested.nd rfl (.inl rfl)) (pgs_cons (pg_name (i := 2) scAreNested.nd rfl (.inr rfl)) pgs_nil)))
          (pss_one (ps_if (pt_val (pe_callB (cr_any rfl) (by rfl) G.any boot_any (pa_cons (pe_lc (own := [("other", 3)]) (g := gName 3) (te := (tNotV (tCall (spTwo K clear) [] E0 (tCons (tVar 2) (tCons (tVar 3) tNil))))) (by rfl) scAreNested.nd (pi_seq (pe_slice (sl_list.or sl_tup) (pv 0) (po_some (pe_op op_add (pv 1) pe_int)) po_none)) (blkOk_by (own := [("other", 3)]) (N := nNest) (sc := defScope sAreNested) (by decide +kernel)) (fun _ _ _ _ _ => (pg_name (i := 3) scAreNested.nd rfl (.inl rfl))) (fun _ _ _ _ _ => pts_nil) (fun _ _ _ _ _ => (pe_not (pe_call C2.ok (hr.mono (by decide)) (by rfl) C2.ns.mg C2.ns.fn.kp C2.ns.bd .nil pass0 (pa_cons (pv 2) (pa_cons (pv 3) pa_nil)))))) pa_nil))) (pss_one (ps_ret pe_bl)) pss_nil)))
      (pss_one (ps_ret pe_bl)))), ?_⟩
    rcases h with ⟨ha, kk⟩ | ⟨e, xs, L, rfl, he, hw, ok, hl, kk⟩
    · exact ⟨x, rfl, x, false, rfl, ha, hz, fun H1 g1 => ⟨_, rfl, kk H1 g1⟩⟩
    · refine ⟨.ref e, rfl, .ref e, true, rfl, AreS.of he hw ok, hz, fun H1 g1 => ⟨_, rfl, ite2 (fun z => nomatch z) fun _ => ?_⟩⟩
      have he1 := SqE.go he g1
      have hw1 := Paired.mapP hw fun _ _ h => h.go g1
      have hxl : L.length = xs.length := Paired.length hw
      refine (fun (main : ∀ (J : It) (Gd : Hp → Prop), Walk J xs.length Gd (YPair (fun i => some (.int (i : Nat))) (fun i => xs[i]?)) → (∀ H', Ex H1 H' → Gd H') → _) =>
        he1.elim (fun q => .inr ⟨.ref e, rfl, e, xs, rfl, q, main _ _ walk_enumT fun H' ex => ex_t ex q⟩) (fun q => .inl ⟨.ref e, rfl, e, xs, rfl, q, main _ _ walk_enum fun H' ex => ex_l ex q⟩)) (fun J Gd wk hG => for_it wk
          (fun i σ' H' => ∃ y1 y2 y3, σ' = [some (.ref e), y1, y2, y3] ∧ Ex H1 H' ∧ ∀ (i' j : Nat) (s o : S5), i' < i → i' < j → L[i']? = some s → L[j]? = some o → clear s o = true)
          ⟨none, none, none, rfl, Ex.refl H1, fun _ _ _ _ z => absurd z (Nat.not_lt_zero _)⟩ (fun i σ' H' _ p => by obtain ⟨_, _, _, _, ex, _⟩ := p; exact hG H' ex) ?_ ?_)
      · intro i x σ' Ha Hb hi hPv hy
        obtain ⟨y1, y2, y3, rfl, ex, inv⟩ := hPv
        obtain ⟨T, u1, u2, rfl, hT, rfl, h1, h2⟩ := hy
        cases h1
        obtain ⟨s, hs, hp⟩ := Paired.atR hw1 h2
        have ex2 := ex.trans (Ex.new hT (o := .tup [.int (i : Nat), u2]))
        refine ⟨T, _, rfl, .inl (SqT.of upd_same), rfl, _, _, rfl, _, _, rfl, rfl, ?_⟩
        have hp2 := hp.ex ex2
        have nz : ¬ (HT.sIx xs.length 0 (some (((i : Nat) : Int) + 1)) = 0 ∧ HT.sIx xs.length xs.length none = xs.length) := fun ⟨z, _⟩ => by
          rw [show ((i : Nat) : Int) + 1 = ((i + 1 : Nat) : Int) by omega, HT.sIx_nat] at z
          omega
        have es := es_sl (σ := [some (.ref e), some (.int (i : Nat)), some u2, y3]) (H := upd Ha T (.tup [.int (i : Nat), u2])) (K := K) (te := tVar 0) (tl2 := tPart (tOp (rI0 fun i j => .int (i + j)) (tVar 1) (tC (.int 1)))) (th := tNoPart) (a := e) (ev_var rfl) (eo_some (ev_op (ev_var rfl) ev_c rv_I0)) eo_none (SqE.ex he1 ex2) nz
        rw [cut_from hi] at es
        have bl : ((L.drop (i + 1)).map fun o => !clear s o).length = (xs.drop (i + 1)).length := by rw [List.length_map, List.length_drop, List.length_drop, hxl]
        have el := el_lcA (j := 3) (te := tNotV (tCall (spTwo K clear) [] E0 (tCons (tVar 2) (tCons (tVar 3) tNil)))) (fun k => .bl (((L.drop (i + 1)).map fun o => !clear s o).getD k false)) es (by rw [List.length_drop]; omega) (fun k y H' hk e' => by
          rw [List.getElem?_drop] at hk
          obtain ⟨o, ho, hpo⟩ := Paired.atR hw1 hk
          have e3 : ((L.drop (i + 1)).map fun o => !clear s o).getD k false = !clear s o := by
            rw [List.getD_eq_getElem?_getD, List.getElem?_map, List.getElem?_drop, ho]
            rfl
          show Ev _ _ _ (.bl (((L.drop (i + 1)).map fun o => !clear s o).getD k false))
          rw [e3]
          exact ev_notV (ev_call (ea_cons (ev_var rfl) (ea_cons (ev_var rfl) ea_nil)) (spTwo.use (hp2.ex e') ((hpo.ex ex2).ex e'))))
        rw [← bl, range_bl] at el
        show tIfS _ _ _ _ _ _
        refine q_ifCB el fun p H3 e3 h3 => ⟨p, _, rfl, SqL.of h3, _, rfl, ?_⟩
        have any_iff : ((L.drop (i + 1)).map fun o => !clear s o).any id = true ↔ ∃ (j : Nat) (o : S5), i < j ∧ L[j]? = some o ∧ clear s o = false := by
          rw [List.any_eq_true]
          constructor
          · rintro ⟨b, hb, hb2⟩
            obtain ⟨o, ho, rfl⟩ := List.mem_map.mp hb
            obtain ⟨k, hk⟩ := List.mem_iff_getElem?.mp ho
            rw [List.getElem?_drop] at hk
            exact ⟨i + 1 + k, o, by omega, hk, by simpa using hb2⟩
          · rintro ⟨j, o, h1, h2, h3⟩
            refine ⟨true, List.mem_map.mpr ⟨o, List.mem_iff_getElem?.mpr ⟨j - (i + 1), ?_⟩, by rw [h3]; rfl⟩, rfl⟩
            rw [List.getElem?_drop, show i + 1 + (j - (i + 1)) = j by omega]
            exact h2
        have g3 : Go Z [] H H3 := g1.then (ex2.trans e3)
        cases hb : ((L.drop (i + 1)).map fun o => !clear s o).any id with
        | true =>
          rw [if_pos rfl]
          obtain ⟨j, o, h4, h5, h6⟩ := any_iff.mp hb
          refine kk false H3 g3 (Iff.intro (fun z => nomatch z) fun n => ?_)
          rw [n i j s o h4 hs h5] at h6
          exact h6.symm
        | false =>
          rw [if_neg (by decide)]
          refine ⟨_, _, _, rfl, ex2.trans e3, fun i' j s' o h4 h5 h6 h7 => ?_⟩
          by_cases h8 : i' < i
          · exact inv i' j s' o h8 h5 h6 h7
          · have h9 : i' = i := by omega
            subst h9
            rw [hs] at h6
            cases h6
            cases h10 : clear s o with
            | true => rfl
            | false =>
              have := any_iff.mpr ⟨j, o, h5, h7, h10⟩
              rw [hb] at this
              cases this
      · intro σ' H' hPv
        obtain ⟨y1, y2, y3, rfl, ex, inv⟩ := hPv
        exact kk true H' (g1.then ex) ⟨fun _ i j s o h1 h2 h3 => inv i j s o (by
          have := (List.getElem?_eq_some_iff.mp h2).1
          omega) h1 h2 h3, fun _ => rfl⟩
end
end K08
set_option Elab.async false
set_option linter.all false
set_option maxRecDepth 100000
set_option maxHeartbeats 4000000
/-! all(f(x, y) for x in e), y a name of the def that asks. -/
namespace Pu
open PySem PySem.Spec PyProof.Rows L2 GxR
section
variable {X : Cx} {pins : List (Addr × Obj)} {σ : L2.St} {H : Hp} {s : Shared}
/-- the def's names that the generator reads -/
def Cap (X : Cx) (σ : L2.St) (sc : Scope) (cenv : Env) (g : Heap) : Prop := ∀ (j : Nat) (y : Str) (v : V), X.N[j]? = some y → σ[j]? = some (some v) → X.env.scope.names.lookup y = some .cell → sc.names.lookup y = some .free →
  ∃ u c, RelV v u ∧ cenv.cells.lookup y = some c ∧ g.IsCell c (some u)
/-- the element's worth, item by item, from any frame of the generator -/
def EltC (X : Cx) (σ : L2.St) (T : Addr) (sc : Scope) (x : Str) (elt : Expr) (k : Nat) (H1 : Hp) (xs : List V) (pb : Nat → Bool) : Prop :=
  ∀ (B : Around) (cenv : Env) (g : Heap) (i : Nat) (v : V) (u : Value), Room k B → cenv.scope = sc → cenv.globals = mainGlobals → cenv.builtins = builtinsNs → Ext X.base g →
    (∃ m, g.Ns cenv.locals m ∧ m x = some u) → xs[i]? = some v → RelV v u → (∀ b ho, b ≠ T → H1 b = some ho → ObjOk X.prog X.w H1 g b ho) → Cap X σ sc cenv g → EV X.prog X.w B cenv g elt (.bl (pb i))
theorem gen_cap {c T : Addr} {elt iter : Expr} {x : Str} {px gp : Pos} {sc : Scope} {te : TE} {k : Nat} {W : Value → Shared → Prop} {R : Hp → List V → (Nat → Bool) → Prop}
    (hr : Room (k + 1) X.A) (TB : TabB X.base X.mg c T) (hcode : X.env.code = .ref c) (S : GenS X.env sc x) (hi : PE X iter te) (hs : ∀ v, genFold iter X.env v = pure v) (I : Inv X pins σ H s)
    (h : te σ H fun v H1 => ∃ (a : Addr) (xs : List V) (pb : Nat → Bool), v = .ref a ∧ (SqT X.K H1 a xs ∨ SqL X.K H1 a xs) ∧ TabG H1 T ∧ EltC X σ T sc x elt k H1 xs pb ∧ R H1 xs pb)
    (hQ : ∀ H1 xs pb g s5, R H1 xs pb → Drawn X pins σ H1 T xs.length pb g s5 → W (.ref g) s5) :
    wpAny (model X.prog X.w) X.A (eval (.GeneratorExp elt [⟨.Name x px, iter, [], 0⟩] sc gp) X.env) W X.xe s := by
  refine wpAny_GeneratorExp_walksQD hr.hd S.co (closure_ok S.free) S.cell S.dot S.loc S.kind (by have := hr.dp; omega) ?_ hs
  refine thn (hi.run pins s σ H _ I h) fun xv s1 ⟨v, H1, I1, r1, q1⟩ => ?_
  obtain ⟨a, xs, pb, rfl, hsq, ⟨ps, hT, ht⟩, hel, hR⟩ := q1
  cases (show xv = Value.ref a from r1)
  refine iter_any I1 hsq fun o its St rv haLt Wk hst => ?_
  have hTs : s1.heap.get? T = some { cls := .none, data := .fields ps } := I1.hok T _ hT
  have hTlt : T < s1.heap.objs.size := Heap.lt_size hTs
  have hT2 : (s1.heap.push o).get? T = some { cls := .none, data := .fields ps } := Heap.get?_push_of_some _ hTs
  have push_keep : ∀ b u, s1.heap.get? b = some u → (s1.heap.push o).get? b = some u := fun b u e => Heap.get?_push_of_some _ e
  have cd : PySem.W.CodeHd (s1.heap.push o) c T := TB.code.keeps fun b u e => push_keep b u (I1.bk b u e)
  have lim2 : (s1.heap.push o).NoLimit := I1.nolimit.push o
  have noT : ∀ b u, X.base.get? b = some u → b ≠ T := fun b u e z => by
    have n := (I1.bs b u e).2
    rw [z, hT] at n
    cases n
  have hlen : its.toArray.size = xs.length := by rw [List.size_toArray, rv.length]
  refine ⟨lim2, code_any hcode (cd.code hT2 ht) (cd.tab hT2) ht hT2 fun code h3 tk ps' hx hsz hT3 hmore ht3 => ?_⟩
  obtain ⟨bm, ob, e1, e2, e3, e4, e5, e6, e7, e8⟩ := TB.bm
  have cneT : cStatics ≠ T := fun e => by
    obtain ⟨_, hns, _⟩ := I1.nolimit
    obtain ⟨o', es, ep, ho, hd, _⟩ := hns
    rw [e, hTs] at ho
    cases ho
    cases hd
  have cLt : cStatics < s1.heap.objs.size := let ⟨_, hns, _⟩ := I1.nolimit; hns.lt
  have sz2 : (s1.heap.push o).objs.size = s1.heap.objs.size + 1 := Heap.size_push ..
  have keep3 : ∀ b u, b ≠ T → s1.heap.get? b = some u → h3.get? b = some u := fun b u hb e => hx b u hb (push_keep b u e)
  refine wpAny_builtinsFor (m := X.mg) (by rw [I1.ok.glob]; exact ((I1.mod.glob.keeps I1.bk).push o).extBut hx TB.gP) e1 e2 (keep3 _ _ e4 (I1.bk _ _ e5)) e6 e7 e8 ?_
  have aneT : a ≠ T := fun z => by
    rcases hsq with q | q
    · rcases q with (q | ⟨_, q⟩) | ⟨_, _, _, hk, _⟩
      · rw [z, hT] at q; cases q
      · rw [z, hT] at q; cases q
      · exact noT a _ (I1.mod.kin a _ hk) z
    · rcases q with (q | ⟨_, q⟩) | ⟨_, _, _, hk, _⟩
      · rw [z, hT] at q; cases q
      · rw [z, hT] at q; cases q
      · exact noT a _ (I1.mod.kin a _ hk) z
  have sLt : s1.heap.objs.size < h3.objs.size := Nat.lt_of_lt_of_le (by rw [sz2]; exact Nat.lt_succ_self _) hsz
  have Wk2 : ∀ B : Around, B.handled = none → Walks X.prog X.w B s1.heap.objs.size [s1.heap.objs.size, a] [s1.heap.objs.size] xs.length (fun i v => its.toArray[i]? = some v) St := hlen ▸ Wk
  refine ⟨s1.heap.objs.size, [s1.heap.objs.size, a], [s1.heap.objs.size], xs.length, (fun i v => its.toArray[i]? = some v), St, (fun _ => true), (fun i y => y = .bool (pb i)), rfl, Wk2, ?_, ?_, lim2.extBut hx cneT, ?_, ?_, ?_⟩
  · refine (Wk2 X.A hr.hd).frame _ _ _ hst fun b hb u e => hx b u (fun z => ?_) e
    rcases List.mem_cons.mp hb with z2 | z2
    · exact Nat.ne_of_lt hTlt (z.symm.trans z2)
    · rcases List.mem_cons.mp z2 with z2 | z2
      · exact aneT (z2.symm.trans z)
      · cases z2
  · intro b hb
    show b < h3.objs.size
    rcases List.mem_cons.mp hb with z | z
    · rw [z]; exact sLt
    · rcases List.mem_cons.mp z with z | z
      · rw [z]; exact Nat.lt_trans haLt sLt
      · cases z
  · intro z
    rcases List.mem_cons.mp z with z | z
    · exact Nat.ne_of_lt cLt z
    · cases z
  · intro href hhref
    refine ⟨fun A' E' i v s₂ m₂ hA hD hU hPv hn hm hk => ?_, fun A' E' i v s₂ m₂ hA hD hU hPv hp hn hm hk => ?_⟩
    · simp only [List.forIn_nil]
      exact wpAny_pure ⟨rfl, keeps_refl _⟩
    · have hv2 : its[i]? = some v := by simpa using hPv
      have hi2 : i < xs.length := by
        have := (List.getElem?_eq_some_iff.mp hv2).1
        rw [rv.length]; exact this
      obtain ⟨u, hu, ru⟩ := rv.get (List.getElem?_eq_getElem hi2)
      have euv : u = v := Option.some.inj (hu.symm.trans hv2)
      subst euv
      have ob2 : ∀ b w', b ≠ T → s1.heap.get? b = some w' → s₂.heap.get? b = some w' := fun b w' hb e => by
        have l1 := Heap.lt_size e
        have e3 := keep3 b w' hb e
        refine hk b (List.mem_range.mpr (Heap.lt_size e3)) (fun z => ?_) _ (hhref _ _ e3)
        rcases List.mem_cons.mp z with z | z
        · exact Nat.ne_of_lt l1 z
        · cases z
      have rm : Room k A' := ⟨hA, by have := hr.dp; omega, by have := hr.un; omega⟩
      refine hel A' (genEnv sc (cloFrom X.env.cells sc.names []) h3.objs.size code builtinsNs X.env) s₂.heap i _ u rm rfl I1.ok.glob rfl (fun b w' e => ob2 b w' (noT b w' e) (I1.bk b w' e)) ⟨m₂, hn, hm⟩ (List.getElem?_eq_getElem hi2) ru (fun b ho hb e => ?_) (fun jj yy vv n1 n2 n3 n4 => ?_) s₂ _ _ (fun _ _ e => e) fun y h' tk' ry hk' => ?_
      · refine (I1.hok b ho e).stay (fun d w' hd q => ob2 d w' ?_ q) (fun _ q => q) fun _ _ q => q
        rcases hd with z | z
        · rw [z]; exact hb
        · intro z2
          rw [z2, hT] at z
          cases z
      · obtain ⟨m1, _, hl1⟩ := I1.loc
        obtain ⟨uu, r9, lk⟩ := hl1 jj yy vv n1 n2 (.inr (.inl n3))
        rcases lk with ⟨k9, _⟩ | ⟨_, c9, hc9, o9, ho9, hd9⟩
        · rw [show X.env.scope.names.lookup yy = some .local from k9] at n3
          cases n3
        · obtain ⟨c8, h8⟩ := mem_lookup (cloFrom_has (cells := X.env.cells) (acc := []) (PySem.mem_of_lookup n4))
          have e8 : X.env.cells.lookup yy = some c8 := by
            rcases cloFrom_mem (PySem.mem_of_lookup h8) with hm9 | ⟨h1, h2⟩
            · cases hm9
            · obtain ⟨c1, hc1⟩ := S.free _ h1 rfl
              have hc1 : X.env.cells.lookup yy = some c1 := hc1
              have e2 : c8 = c1 := by
                rw [h2, hc1] <;> rfl
              rw [e2]
              exact hc1
          have e7 : c8 = c9 := Option.some.inj (e8.symm.trans hc9)
          subst e7
          have nT : c8 ≠ T := fun z => by
            have n := I1.freeC yy c8 hc9
            rw [z, hT] at n
            cases n
          exact ⟨uu, c8, r9, h8, o9, ob2 _ _ nT ho9, hd9⟩
      · exact ⟨ry, h', tk', rfl, hk'⟩
  · intro g h5 tk5 gs hgb hag hsz5 hk5 W5 hat
    simp only [GxR.passing_true, List.length_range] at W5
    refine hQ H1 xs pb g _ hR ⟨_, _, _, _, _, W5.in4_1, hat, ?_, fun s' hm => ?_⟩
    · intro j y sj Qj Ej hy hQj
      obtain ⟨i, hij, rfl⟩ := hy
      obtain ⟨hj, ej⟩ := List.getElem?_eq_some_iff.mp hij
      rw [List.getElem_range] at ej
      subst ej
      exact wpAny_truthy_bool hQj
    · obtain ⟨more, em⟩ := hmore
      have nwr : ∀ b u, s1.heap.get? b = some u → b ∉ h3.objs.size :: [s1.heap.objs.size] := fun b u e hb => by
        have hl := Heap.lt_size e
        rcases List.mem_cons.mp hb with z | z
        · have h9 : b = h3.objs.size := z
          have : b < s1.heap.objs.size := hl
          rw [h9] at this
          have h10 : h3.objs.size < s1.heap.objs.size := this
          omega
        · rcases List.mem_cons.mp z with z | z
          · rw [z] at hl
            exact Nat.lt_irrefl _ hl
          · cases z
      have J := inv_tab (more := more) (h' := s'.heap) (g' := s'.gens) (d' := s'.drawn) (t' := s'.toks) I1 hT (fun b u hb e => hm.heap b u (nwr b u e) (hk5 b u (keep3 b u hb e)))
        (by rw [← em]; exact hm.heap T _ (nwr T _ hTs) (hk5 T _ hT3)) (AllBare.movedS (I1.bare.push hgb) hm)
      rw [sh_eta s1 s' hm.os] at J
      exact ⟨upd H1 T (.tbl (ps ++ more)), ⟨⟨ps ++ more, upd_same, by rw [← em]; exact ht3⟩, fun b hb => upd_ne hb⟩, J⟩

/-- all(test for x in e), names of the def read: the reading -/
def tAllC (X : Cx) (T : Addr) (sc : Scope) (x : Str) (elt : Expr) (k : Nat) (te : TE) : TE := fun σ H Q => te σ H fun v H1 => ∃ (a : Addr) (xs : List V) (pb : Nat → Bool),
  v = .ref a ∧ (SqT X.K H1 a xs ∨ SqL X.K H1 a xs) ∧ TabG H1 T ∧ EltC X σ T sc x elt k H1 xs pb ∧ ∀ H2, Tabbed T H1 H2 → Q (.bl ((List.range xs.length).all pb)) H2
theorem pe_allC {c T : Addr} {elt iter : Expr} {x : Str} {px p pos gp : Pos} {sc : Scope} {te : TE} {k : Nat} (hr : Room (k + 1) X.A) (hg : Gl X "all") (hm : X.mg "all" = none) (TB : TabB X.base X.mg c T) (hcode : X.env.code = .ref c)
    (S : GenS X.env sc x) (hi : PE X iter te) (hb : bootBuiltins "all" = some (.builtin "all") := by decide +kernel) (hs : ∀ v, genFold iter X.env v = pure v := by intro _; rfl)
    (he : starEach [.GeneratorExp elt [⟨.Name x px, iter, [], 0⟩] sc gp] X.env = (false, eval (.GeneratorExp elt [⟨.Name x px, iter, [], 0⟩] sc gp) X.env) :: starEach [] X.env := by rfl) :
    PE X (.Call (.Name "all" p) [.GeneratorExp elt [⟨.Name x px, iter, [], 0⟩] sc gp] [] pos) (tAllC X T sc x elt k te) := by
  refine ⟨fun pins s σ H Q I h => wpAny_Call_Name_kw (ld_blt I hg hm hb (PyProof.Rows.callWith_builtin1 ?_ he (by rfl)))⟩
  rw [he]
  show wpAny _ _ (spliced ((false, eval (.GeneratorExp elt [⟨.Name x px, iter, [], 0⟩] sc gp) X.env) :: backTo pos (starEach [] X.env))) _ _ s
  refine Calls.spliced_cons (gen_cap (R := fun H1 xs pb => ∀ H2, Tabbed T H1 H2 → Q (.bl ((List.range xs.length).all pb)) H2) hr TB hcode S hi hs I h fun H1 xs pb g s5 hR hG => ?_)
  obtain ⟨fp, wr, G, F, St, Wk, hst, htr, hI⟩ := hG
  refine Calls.spliced_nil (call_all_walkS (Wk.self 0 _ _ _ hst ⟨g, fp, wr, G, _, F, St, _, rfl, Wk, hst, htr, fun s' hmv => ?_⟩))
  obtain ⟨H2, hT, J⟩ := hI s' hmv
  exact ⟨.bl _, H2, J, rfl, hR H2 hT⟩
/-- a name of the def that asks, in the generator -/
theorem ev_cap {P : Program} {w : World} {A : Around} {env : Env} {g : Heap} {x : Str} {pos : Pos} {u : Value} {v : V} {c : Addr} (hk : env.scope.kind = .function) (hx : env.scope.names.lookup x = some .free) (r : RelV v u) (hc : env.cells.lookup x = some c) (hv : g.IsCell c (some u))
    (hd : (x == ("__debug__" : Str)) = false := by decide) (hcd : (x == ("__classdict__" : Str)) = false := by decide) : EV P w A env g (.Name x pos) v := fun s Q E he hQ => by
  obtain ⟨o, ho, hd'⟩ := hv
  exact wpAny_Name (wpAny_loadName_free hk hx hc ⟨o, he _ _ ho, hd'⟩ (hQ u s.heap s.toks r fun _ _ e => e) hcd) hd
end
end Pu
set_option Elab.async false
set_option linter.all false
set_option maxRecDepth 100000
set_option maxHeartbeats 4000000
/-! zip of two sequences, each a list or a tuple. -/
namespace Pz
open PySem
open PySem.Sem (wp)
/-- a list's or a tuple's iterator at its k-th item; the sequence itself -/
def ItAt (h : Heap) (b : Bool) (it l : Addr) (k : Nat) : Prop := match b with
  | true => h.IsTupleIter it l k
  | false => h.IsListIter it l k
def SqAt (h : Heap) (b : Bool) (l : Addr) (xs : Array Value) : Prop := match b with
  | true => h.IsTuple l xs
  | false => h.IsList l xs
section
variable {prog : Program} {w : World} {A : Around} {E : Value → Shared → Prop} {s : Shared}
theorem ItAt.to {h g : Heap} {b : Bool} {it l : Addr} {k : Nat} (x : ItAt h b it l k) (e : ∀ o, h.get? it = some o → g.get? it = some o) : ItAt g b it l k := by
  cases b with
  | true => exact Heap.IsTupleIter.at x e
  | false => exact Heap.IsListIter.at x e
theorem ItAt.lt {h : Heap} {b : Bool} {it l : Addr} {k : Nat} (x : ItAt h b it l k) : it < h.objs.size := by
  cases b with
  | true => obtain ⟨_, e, _⟩ := x; exact Heap.lt_size e
  | false => obtain ⟨_, e, _⟩ := x; exact Heap.lt_size e
theorem ItAt.ob {h : Heap} {b : Bool} {it l : Addr} {k : Nat} (x : ItAt h b it l k) : ∃ o, h.get? it = some o ∧ ∀ v, o.data ≠ .cell v := by
  cases b with
  | true => obtain ⟨o, e, _, d⟩ := x; exact ⟨o, e, fun v q => by rw [d] at q; cases q⟩
  | false => obtain ⟨o, e, _, d⟩ := x; exact ⟨o, e, fun v q => by rw [d] at q; cases q⟩
theorem SqAt.to {h g : Heap} {b : Bool} {l : Addr} {xs : Array Value} (x : SqAt h b l xs) (e : ∀ o, h.get? l = some o → g.get? l = some o) : SqAt g b l xs := by
  cases b with
  | true => obtain ⟨o, a, r⟩ := x; exact ⟨o, e o a, r⟩
  | false => obtain ⟨o, a, r⟩ := x; exact ⟨o, e o a, r⟩
theorem SqAt.lt {h : Heap} {b : Bool} {l : Addr} {xs : Array Value} (x : SqAt h b l xs) : l < h.objs.size := by
  cases b with
  | true => obtain ⟨_, e, _⟩ := x; exact Heap.lt_size e
  | false => obtain ⟨_, e, _⟩ := x; exact Heap.lt_size e
theorem draw {b : Bool} {it l : Addr} {k : Nat} {xs : Array Value} {v : Value} {Q : Value → Shared → Prop} (x : ItAt s.heap b it l k) (y : SqAt s.heap b l xs) (hv : xs[k]? = some v)
    (q : ∀ g, ItAt g b it l (k + 1) → Heap.SameBut it s.heap g → Q v { s with heap := g }) : wpAny (model prog w) A (Builtin.SmallTypes.nextOf (.ref it)) Q E s := by
  cases b with
  | true => exact RZ.nextOf_tuple_item x y hv q
  | false => exact wpAny_nextOf_list_item x y hv q
theorem drawn {b : Bool} {it l : Addr} {k : Nat} {xs : Array Value} {Q : Value → Shared → Prop} (hh : A.handled = none) (x : ItAt s.heap b it l k) (y : SqAt s.heap b l xs) (hv : xs[k]? = none)
    (q : ∀ g e, Heap.ExtBut it s.heap g → (∃ o, g.get? e = some o ∧ o.cls = .type "StopIteration") → E (.ref e) { s with heap := g }) : wpAny (model prog w) A (Builtin.SmallTypes.nextOf (.ref it)) Q E s := by
  cases b with
  | true => exact RZ.nextOf_tuple_end hh x y hv q
  | false => exact wpAny_nextOf_list_end hh x y hv q
end
end Pz
set_option Elab.async false
set_option linter.all false
set_option maxRecDepth 100000
set_option maxHeartbeats 4000000
namespace Pz
open PySem
open PySem.Sem (wp)
/-- all but the zip, its pair and its two iterators stays -/
def Far (z O i j : Addr) (h g : Heap) : Prop := ∀ c o, c ≠ z → c ≠ O → c ≠ i → c ≠ j → h.get? c = some o → g.get? c = some o
section
variable {prog : Program} {w : World} {A : Around} {E : Value → Shared → Prop} {s : Shared} {b b' : Bool} {z N O i j l l' : Addr} {k k' : Nat} {xs ys : Array Value} {p q u v : Value}
theorem zip_item {Q : Value → Shared → Prop} (D : ZipApart z N O i j l l') (hz : IsZip s.heap z N O .none) (hN : IsPair s.heap N (.ref i) (.ref j)) (hO : IsPair s.heap O p q)
    (x1 : ItAt s.heap b i l k) (x2 : ItAt s.heap b' j l' k') (y1 : SqAt s.heap b l xs) (y2 : SqAt s.heap b' l' ys) (hu : xs[k]? = some u) (hv : ys[k']? = some v)
    (done : ∀ g, IsZip g z N O (rawInt s.heap.objs.size) → IsPair g O u v → ItAt g b i l (k + 1) → ItAt g b' j l' (k' + 1) → IsPair g s.heap.objs.size u v → g.objs.size = s.heap.objs.size + 1 → Far z O i j s.heap g → Q (.ref s.heap.objs.size) { s with heap := g }) :
    wpAny (model prog w) A (Builtin.«zip.__next__» ⟨[.ref z], []⟩) (fun f t => ∃ r, f = .done (.ret r) ∧ Q r t) E s := by
  show wpAny _ _ (field (.ref z) 2 >>= _) _ _ _; refine wpAny_bind (wpAny_field hz rfl (x := .bool false) rfl ?_)
  show wpAny _ _ (field (.ref z) 3 >>= _) _ _ _; refine wpAny_bind (wpAny_field hz rfl (x := .ref N) rfl (wpAny_bind (wpAny_seqItems hN rfl ?_)))
  show wpAny _ _ (Builtin.SmallTypes.ownedTupleIsFree (.ref z) >>= _) _ _ _; refine wpAny_bind ?_; unfold Builtin.SmallTypes.ownedTupleIsFree
  refine wpAny_bind (wpAny_field hz rfl (x := .none) rfl (wpAny_pure ?_)); simp only [if_true]; refine wpAny_bind (wpAny_rule (wpAny_bind (wpAny_field hz rfl (x := .ref O) rfl ?_)))
  refine wpAny_bind (wpAny_setField_rec hz (by simp) fun g1 z1 s1 => ?_); replace z1 : IsZip g1 z N O .ellipsis := z1
  refine wpAny_bind ?_; simp only [List.zipIdx_cons, List.zipIdx_nil, List.forIn_cons, List.forIn_nil]
  -- the first sequence
  refine wpAny_bind (wpAny_bind (wpAny_onRaise ?_)); show wpAny _ _ (Builtin.SmallTypes.nextOf (.ref i) >>= _) _ _ _
  refine wpAny_bind (draw (s := { s with heap := g1 }) (x1.to fun o e => s1.extBut _ _ D.i1z e) (y1.to fun o e => s1.extBut _ _ D.l1z e) hu fun g2 w1 s2 => wpAny_pure ?_)
  have o2 : IsPair g2 O p q := s2.extBut _ _ D.TOi1 (s1.extBut _ _ D.TOz hO)
  refine wpAny_bind (wpAny_seqItems o2 rfl (wpAny_bind (wpAny_updateSeq_pair o2 fun g3 o3 s3 => ?_))); replace o3 : IsPair g3 O u q := o3
  refine wpAny_bind (wpAny_letGo (wpAny_pure (wpAny_bind (wpAny_bind (wpAny_onRaise ?_)))))
  -- the second one
  show wpAny _ _ (Builtin.SmallTypes.nextOf (.ref j) >>= _) _ _ _
  have far3 : ∀ c o, c ≠ z → c ≠ i → c ≠ O → s.heap.get? c = some o → g3.get? c = some o := fun c o n1 n2 n3 e => s3.extBut _ _ n3 (s2.extBut _ _ n2 (s1.extBut _ _ n1 e))
  refine wpAny_bind (draw (s := { s with heap := g3 }) (x2.to fun o e => far3 _ _ D.i2z D.i12.symm D.TOi2.symm e) (y2.to fun o e => far3 _ _ D.l2z D.l2i1 D.l2TO e) hv fun g4 w2 s4 => wpAny_pure ?_)
  have o4 : IsPair g4 O u q := s4.extBut _ _ D.TOi2 o3
  refine wpAny_bind (wpAny_seqItems o4 rfl (wpAny_bind (wpAny_updateSeq_pair o4 fun g5 o5 s5 => ?_))); replace o5 : IsPair g5 O u v := o5
  refine wpAny_bind (wpAny_letGo (wpAny_pure (wpAny_pure (wpAny_bind (wpAny_seqItems o5 rfl (wpAny_bind (wpAny_newTuple ?_)))))))
  have far5 : Far z O i j s.heap g5 := fun c o n1 n2 n3 n4 e => s5.extBut _ _ n2 (s4.extBut _ _ n4 (far3 c o n1 n3 n2 e))
  have sz5 : g5.objs.size = s.heap.objs.size := by rw [s5.1, s4.1, s3.1, s2.1, s1.1]
  have z5 : IsZip g5 z N O .ellipsis := s5.extBut _ _ D.TOz.symm (s4.extBut _ _ D.i2z.symm (s3.extBut _ _ D.TOz.symm (s2.extBut _ _ D.i1z.symm z1)))
  have v1 : ItAt g5 b i l (k + 1) := w1.to fun o e => s5.extBut _ _ D.TOi1.symm (s4.extBut _ _ D.i12 (s3.extBut _ _ D.TOi1.symm e))
  have v2 : ItAt g5 b' j l' (k' + 1) := w2.to fun o e => s5.extBut _ _ D.TOi2.symm e
  have zl : z < g5.objs.size := Heap.lt_size z5
  -- the new tuple is handed out
  show wpAny _ _ (Builtin.SmallTypes.ownedTupleHandOut (.ref z) (.ref g5.objs.size) >>= _) _ _ _; refine wpAny_bind ?_; unfold Builtin.SmallTypes.ownedTupleHandOut
  refine wpAny_bind (wpAny_setField_rec (show IsZip (g5.push { cls := .type "tuple", data := .seq #[u, v] }) z N O .ellipsis from Heap.get?_push_of_some _ z5) (by simp) fun g6 z6 s6 => ?_)
  replace z6 : IsZip g6 z N O (rawInt g5.objs.size) := z6; refine wpAny_setField_rec z6 (by simp) fun g7 z7 s7 => ?_; replace z7 : IsZip g7 z N O (rawInt g5.objs.size) := z7
  have up : ∀ c o, c ≠ z → g5.get? c = some o → g7.get? c = some o := fun c o n e => s7.extBut _ _ n (s6.extBut _ _ n (Heap.get?_push_of_some _ e))
  have new : IsPair g7 g5.objs.size u v := s7.extBut _ _ (Nat.ne_of_gt zl) (s6.extBut _ _ (Nat.ne_of_gt zl) (Heap.get?_push_size _ rfl))
  have sz7 : g7.objs.size = g5.objs.size + 1 := by rw [s7.1, s6.1, Heap.size_push]
  rw [sz5] at z7 new sz7
  refine wpAny_pure ⟨_, rfl, ?_⟩; show Q (.ref g5.objs.size) _; rw [sz5]
  exact done g7 z7 (up _ _ D.TOz o5) (v1.to fun o e => up _ _ D.i1z e) (v2.to fun o e => up _ _ D.i2z e) new sz7 fun c o n1 n2 n3 n4 e => up _ _ n1 (far5 c o n1 n2 n3 n4 e)
end
end Pz
set_option Elab.async false
set_option linter.all false
set_option maxRecDepth 100000
set_option maxHeartbeats 4000000
namespace Pz
open PySem
open PySem.Sem (wp)
section
variable {prog : Program} {w : World} {A : Around} {E : Value → Shared → Prop} {s : Shared} {b b' : Bool} {z N O i j l l' : Addr} {k k' : Nat} {xs ys : Array Value} {p q u v : Value}
theorem zip_over {Q : Fin → Shared → Prop} (calm : A.handled = none) (D : ZipApart z N O i j l l') (hz : IsZip s.heap z N O .none) (hN : IsPair s.heap N (.ref i) (.ref j)) (hO : IsPair s.heap O p q)
    (x1 : ItAt s.heap b i l k) (x2 : ItAt s.heap b' j l' k') (y1 : SqAt s.heap b l xs) (y2 : SqAt s.heap b' l' ys) (over : xs[k]? = none ∨ ys[k']? = none)
    (stop : ∀ g e, Far z O i j s.heap g → (∃ o, g.get? e = some o ∧ o.cls = .type "StopIteration") → E (.ref e) { s with heap := g }) :
    wpAny (model prog w) A (Builtin.«zip.__next__» ⟨[.ref z], []⟩) Q E s := by
  show wpAny _ _ (field (.ref z) 2 >>= _) _ _ _; refine wpAny_bind (wpAny_field hz rfl (x := .bool false) rfl ?_)
  show wpAny _ _ (field (.ref z) 3 >>= _) _ _ _; refine wpAny_bind (wpAny_field hz rfl (x := .ref N) rfl (wpAny_bind (wpAny_seqItems hN rfl ?_)))
  show wpAny _ _ (Builtin.SmallTypes.ownedTupleIsFree (.ref z) >>= _) _ _ _; refine wpAny_bind ?_; unfold Builtin.SmallTypes.ownedTupleIsFree
  refine wpAny_bind (wpAny_field hz rfl (x := .none) rfl (wpAny_pure ?_)); simp only [if_true]; refine wpAny_bind (wpAny_rule (wpAny_bind (wpAny_field hz rfl (x := .ref O) rfl ?_)))
  refine wpAny_bind (wpAny_setField_rec hz (by simp) fun g1 z1 s1 => ?_); replace z1 : IsZip g1 z N O .ellipsis := z1
  refine wpAny_bind ?_; simp only [List.zipIdx_cons, List.zipIdx_nil, List.forIn_cons, List.forIn_nil]
  refine wpAny_bind (wpAny_bind (wpAny_onRaise ?_)); show wpAny _ _ (Builtin.SmallTypes.nextOf (.ref i) >>= _) _ _ _
  have xi : ItAt g1 b i l k := x1.to fun o e => s1.extBut _ _ D.i1z e
  have yi : SqAt g1 b l xs := y1.to fun o e => s1.extBut _ _ D.l1z e
  match hu : xs[k]? with
  | none =>
    refine wpAny_bind (drawn (s := { s with heap := g1 }) calm xi yi hu fun g2 e far fin => ?_)
    obtain ⟨oe, he, ce⟩ := fin
    have z2 : IsZip g2 z N O .ellipsis := far _ _ D.i1z.symm z1
    have en : e ≠ z := by intro y; rw [y, z2] at he; cases he; simp at ce
    exact wpAny_setField_rec z2 (by simp) fun g3 _ s3 => stop g3 e (fun c o n1 _ n3 _ a => s3.extBut _ _ n1 (far _ _ n3 (s1.extBut _ _ n1 a))) ⟨oe, s3.extBut _ _ en he, ce⟩
  | some u =>
    have hv : ys[k']? = none := over.resolve_left fun y => by rw [hu] at y; cases y
    refine wpAny_bind (draw (s := { s with heap := g1 }) xi yi hu fun g2 w1 s2 => wpAny_pure ?_)
    have o2 : IsPair g2 O p q := s2.extBut _ _ D.TOi1 (s1.extBut _ _ D.TOz hO)
    refine wpAny_bind (wpAny_seqItems o2 rfl (wpAny_bind (wpAny_updateSeq_pair o2 fun g3 o3 s3 => ?_)))
    refine wpAny_bind (wpAny_letGo (wpAny_pure (wpAny_bind (wpAny_bind (wpAny_onRaise ?_))))); show wpAny _ _ (Builtin.SmallTypes.nextOf (.ref j) >>= _) _ _ _
    have far3 : ∀ c o, c ≠ z → c ≠ i → c ≠ O → s.heap.get? c = some o → g3.get? c = some o := fun c o n1 n2 n3 e => s3.extBut _ _ n3 (s2.extBut _ _ n2 (s1.extBut _ _ n1 e))
    refine wpAny_bind (drawn (s := { s with heap := g3 }) calm (x2.to fun o e => far3 _ _ D.i2z D.i12.symm D.TOi2.symm e) (y2.to fun o e => far3 _ _ D.l2z D.l2i1 D.l2TO e) hv fun g4 e far fin => ?_)
    obtain ⟨oe, he, ce⟩ := fin
    have z4 : IsZip g4 z N O .ellipsis := far _ _ D.i2z.symm (s3.extBut _ _ D.TOz.symm (s2.extBut _ _ D.i1z.symm z1))
    have en : e ≠ z := by intro y; rw [y, z4] at he; cases he; simp at ce
    exact wpAny_setField_rec z4 (by simp) fun g5 _ s5 => stop g5 e (fun c o n1 n2 n3 n4 a => s5.extBut _ _ n1 (far _ _ n4 (far3 c o n1 n3 n2 a))) ⟨oe, s5.extBut _ _ en he, ce⟩
theorem next_item {Q : Option Value → Shared → Prop} (D : ZipApart z N O i j l l') (hz : IsZip s.heap z N O .none) (hN : IsPair s.heap N (.ref i) (.ref j)) (hO : IsPair s.heap O p q)
    (x1 : ItAt s.heap b i l k) (x2 : ItAt s.heap b' j l' k') (y1 : SqAt s.heap b l xs) (y2 : SqAt s.heap b' l' ys) (hu : xs[k]? = some u) (hv : ys[k']? = some v)
    (done : ∀ g, IsZip g z N O (rawInt s.heap.objs.size) → IsPair g O u v → ItAt g b i l (k + 1) → ItAt g b' j l' (k' + 1) → IsPair g s.heap.objs.size u v → g.objs.size = s.heap.objs.size + 1 → Far z O i j s.heap g → Q (some (.ref s.heap.objs.size)) { s with heap := g }) :
    wpAny (model prog w) A (pyNext (.ref z)) Q E s := by
  have ty : s.TypeIs (.ref z) "zip" := ⟨_, hz, rfl⟩
  unfold pyNext
  refine wpAny_bind (wpAny_attempt (wpAny_callSpecial?_slot (name := Str.ofString "__next__") ty F.slot_zip_next (wpAny_call_entry F.slot_zip_next ty F.entry_zip_next ?_ (F.args_zip_next_1 _))))
  exact zip_item D hz hN hO x1 x2 y1 y2 hu hv fun g c1 c2 c3 c4 c5 c6 c7 => wpAny_pure (done g c1 c2 c3 c4 c5 c6 c7)
theorem next_over {Q : Option Value → Shared → Prop} (calm : A.handled = none) (D : ZipApart z N O i j l l') (hz : IsZip s.heap z N O .none) (hN : IsPair s.heap N (.ref i) (.ref j)) (hO : IsPair s.heap O p q)
    (x1 : ItAt s.heap b i l k) (x2 : ItAt s.heap b' j l' k') (y1 : SqAt s.heap b l xs) (y2 : SqAt s.heap b' l' ys) (over : xs[k]? = none ∨ ys[k']? = none) (done : ∀ g, Far z O i j s.heap g → Q none { s with heap := g }) :
    wpAny (model prog w) A (pyNext (.ref z)) Q E s := by
  have ty : s.TypeIs (.ref z) "zip" := ⟨_, hz, rfl⟩
  unfold pyNext
  refine wpAny_bind (wpAny_attempt (wpAny_callSpecial?_slot (name := Str.ofString "__next__") ty F.slot_zip_next (wpAny_call_entry F.slot_zip_next ty F.entry_zip_next ?_ (F.args_zip_next_1 _))))
  refine zip_over calm D hz hN hO x1 x2 y1 y2 over fun g e far fin => ?_
  obtain ⟨o, ho, hc⟩ := fin
  exact wpAny_bind (wpAny_isInstance (T := "StopIteration") (b := true) ⟨o, ho, hc⟩ isSubtype_stop (wpAny_pure (done g far)))
/-- the class of a sequence's iterator -/
def itCls (b : Bool) : Value := if b = true then .type "tuple_iterator" else .type "list_iterator"
theorem iter_of {Q : Value → Shared → Prop} (y : SqAt s.heap b l xs) (q : Q (.ref s.heap.objs.size) { s with heap := s.heap.push { cls := itCls b, data := .fields #[.ref l, .int 0 0] } }) : wpAny (model prog w) A (pyIter (.ref l)) Q E s := by
  cases b with
  | true => exact wpAny_pyIter_tuple y q
  | false => exact wpAny_pyIter_list y q
theorem it_new {h : Heap} {g : Heap} {a : Addr} (e : g.get? a = some { cls := itCls b, data := .fields #[.ref l, .int 0 0] }) : ItAt g b a l 0 := by
  cases b with
  | true => exact ⟨_, e, rfl, rfl⟩
  | false => exact ⟨_, e, rfl, rfl⟩
end
end Pz
set_option Elab.async false
set_option linter.all false
set_option maxRecDepth 100000
set_option maxHeartbeats 4000000
namespace Pz
open PySem
open PySem.Sem (wp)
def itOf (b : Bool) (l : Addr) : Obj := { cls := itCls b, data := .fields #[.ref l, .int 0 0] }
def made2 (h : Heap) (b b' : Bool) (l l' : Addr) : Heap := (h.push (itOf b l)).push (itOf b' l')
def made3 (h : Heap) (b b' : Bool) (l l' : Addr) : Heap := (made2 h b b' l l').push { cls := .type "tuple", data := .seq #[.ref h.objs.size, .ref (h.push (itOf b l)).objs.size] }
def made4 (h : Heap) (b b' : Bool) (l l' : Addr) : Heap := (made3 h b b' l l').push { cls := .type "tuple", data := .seq #[.none, .none] }
def made5 (h : Heap) (b b' : Bool) (l l' : Addr) : Heap := (made4 h b b' l l').push { cls := .type "zip", data := .fields #[.none, .bool false, .bool false, .ref (made2 h b b' l l').objs.size, .ref (made3 h b b' l l').objs.size] }
theorem zip_makes (b b' : Bool) (l l' : Addr) (xs ys : Array Value) :
    Meets (Builtin.«zip.__new__» ⟨[.type "zip", .ref l, .ref l'], []⟩) (fun _ R s => SqAt s.heap b l xs ∧ SqAt s.heap b' l' ys ∧ R (.ok (.ret (.ref (made4 s.heap b b' l l').objs.size))) { s with heap := made5 s.heap b b' l l' }) :=
  .of_wp fun prog w A R t ht => by
    obtain ⟨h, g, d, tk, os⟩ := t; obtain ⟨y1, y2, r⟩ := ht
    have sub := sub_zip
    have c1 : SqAt (Shared.heap ⟨h, g, d, tk, os⟩) b l xs := y1
    have c2 : SqAt (Shared.heap ⟨h.push { cls := itCls b, data := .fields #[.ref l, .int 0 0] }, g, d, tk, os⟩) b' l' ys := y2.to fun o e => Heap.get?_push_of_some _ e
    wp_walk using iter_of c1, iter_of c2
    exact ⟨_, rfl, r⟩
section
variable {prog : Program} {w : World} {A : Around} {E : Value → Shared → Prop} {s : Shared} {b b' : Bool} {l l' : Addr} {xs ys : Array Value}
theorem call_zip {Q : Value → Shared → Prop} (y1 : SqAt s.heap b l xs) (y2 : SqAt s.heap b' l' ys)
    (q : ∀ g, IsZip g (s.heap.objs.size + 4) (s.heap.objs.size + 2) (s.heap.objs.size + 3) .none → IsPair g (s.heap.objs.size + 2) (.ref s.heap.objs.size) (.ref (s.heap.objs.size + 1)) → IsPair g (s.heap.objs.size + 3) .none .none →
      ItAt g b s.heap.objs.size l 0 → ItAt g b' (s.heap.objs.size + 1) l' 0 → (∀ c o, s.heap.get? c = some o → g.get? c = some o) → Q (.ref (s.heap.objs.size + 4)) { s with heap := g }) :
    wpAny (model prog w) A (call (.type "zip") [.ref l, .ref l']) Q E s := by
  refine callType_new F.called_zip (by decide) (F.typeCall_zip_2 _ _) (F.newCall_zip_2 _ _) (fun o => F.args_object_init_3 o _ _) F.entry_zip_new (zip_makes b b' l l' xs ys) ⟨y1, y2, ?_⟩
  obtain ⟨n, hn⟩ : ∃ n, n = s.heap.objs.size := ⟨_, rfl⟩
  have n1 : (s.heap.push (itOf b l)).objs.size = n + 1 := by rw [Heap.size_push, hn]
  have n2 : (made2 s.heap b b' l l').objs.size = n + 2 := by unfold made2; rw [Heap.size_push, n1]
  have n3 : (made3 s.heap b b' l l').objs.size = n + 3 := by unfold made3; rw [Heap.size_push, n2]
  have n4 : (made4 s.heap b b' l l').objs.size = n + 4 := by unfold made4; rw [Heap.size_push, n3]
  have a5 : IsZip (made5 s.heap b b' l l') (made4 s.heap b b' l l').objs.size (made2 s.heap b b' l l').objs.size (made3 s.heap b b' l l').objs.size .none := Heap.get?_push_size _ rfl
  have a4 : IsPair (made5 s.heap b b' l l') (made3 s.heap b b' l l').objs.size .none .none := Heap.get?_push_of_some _ (Heap.get?_push_size _ rfl)
  have a3 : IsPair (made5 s.heap b b' l l') (made2 s.heap b b' l l').objs.size (.ref s.heap.objs.size) (.ref (s.heap.push (itOf b l)).objs.size) := Heap.get?_push_of_some _ (Heap.get?_push_of_some _ (Heap.get?_push_size _ rfl))
  have a2 : (made5 s.heap b b' l l').get? (s.heap.push (itOf b l)).objs.size = some (itOf b' l') := Heap.get?_push_of_some _ (Heap.get?_push_of_some _ (Heap.get?_push_of_some _ (Heap.get?_push_size _ rfl)))
  have a1 : (made5 s.heap b b' l l').get? s.heap.objs.size = some (itOf b l) := Heap.get?_push_of_some _ (Heap.get?_push_of_some _ (Heap.get?_push_of_some _ (Heap.get?_push_of_some _ (Heap.get?_push_size _ rfl))))
  rw [n2, n3, n4] at a5
  rw [n3] at a4
  rw [n1, n2, ← hn] at a3
  rw [n1] at a2
  rw [← hn] at a1
  rw [← hn] at q
  show _ ∧ _
  rw [n4]
  exact ⟨⟨_, a5, rfl⟩, q _ a5 a3 a4 (it_new (h := s.heap) a1) (it_new (h := s.heap) a2) fun c o e => Heap.get?_push_of_some _ (Heap.get?_push_of_some _ (Heap.get?_push_of_some _ (Heap.get?_push_of_some _ (Heap.get?_push_of_some _ e))))⟩
end
end Pz
set_option Elab.async false
set_option linter.all false
set_option maxRecDepth 100000
set_option maxHeartbeats 4000000
namespace Pz
open PySem PySem.Spec PyProof.Rows L2
def SqB (K : PySem.W.Frag) (H : Hp) (b : Bool) (a : Addr) (xs : List V) : Prop := match b with
  | true => SqT K H a xs
  | false => SqL K H a xs
theorem SqB.at {X : Cx} {pins : List (Addr × Obj)} {σ : L2.St} {H : Hp} {s : Shared} {b : Bool} {a : Addr} {xs : List V} (I : Inv X pins σ H s) (q : SqB X.K H b a xs) : ∃ its : List Value, Vals xs its ∧ SqAt s.heap b a its.toArray := by
  cases b with
  | true =>
    obtain ⟨its, r, p, _⟩ := I.tuple q
    exact ⟨its, r, p⟩
  | false =>
    obtain ⟨its, r, p, _⟩ := I.list q
    exact ⟨its, r, p.isList⟩
/-- the sequences at a and c, item by item in new pairs -/
def Izs (K : PySem.W.Frag) (b b' : Bool) (a c : Addr) (xs ys : List V) : It :=
  ⟨fun i H => (SqB K H b a xs ∧ SqB K H b' c ys) ∧ i < xs.length ∧ i < ys.length, fun i H v H' => ∃ T x y, v = .ref T ∧ H T = none ∧ H' = upd H T (.tup [x, y]) ∧ xs[i]? = some x ∧ ys[i]? = some y,
    fun i H => (SqB K H b a xs ∧ SqB K H b' c ys) ∧ (xs.length ≤ i ∨ ys.length ≤ i)⟩
def Stz (b b' : Bool) (a c z N O i j : Addr) (k : Nat) (h : Heap) : Prop := IsZip h z N O .none ∧ IsPair h N (.ref i) (.ref j) ∧ (∃ x y, IsPair h O x y) ∧ ItAt h b i a k ∧ ItAt h b' j c k
theorem five {z N O i j c : Addr} {P : Addr → Prop} (h : c ∈ [z, N, O, i, j]) (p1 : P z) (p2 : P N) (p3 : P O) (p4 : P i) (p5 : P j) : P c := by
  rcases List.mem_cons.mp h with y | h
  · rw [y]; exact p1
  · rcases List.mem_cons.mp h with y | h
    · rw [y]; exact p2
    · rcases List.mem_cons.mp h with y | h
      · rw [y]; exact p3
      · rcases List.mem_cons.mp h with y | h
        · rw [y]; exact p4
        · rw [List.mem_singleton.mp h]; exact p5
theorem not5 {z N O i j c : Addr} (h : c ∉ [z, N, O, i, j]) : c ≠ z ∧ c ≠ N ∧ c ≠ O ∧ c ≠ i ∧ c ≠ j := by
  refine ⟨fun y => h ?_, fun y => h ?_, fun y => h ?_, fun y => h ?_, fun y => h ?_⟩ <;> rw [y] <;> simp
theorem turn_zs {P : Program} {w : World} {K : PySem.W.Frag} {elts : List Expr} {kk : Nat} {tpos : Pos} {b b' : Bool} {a c z N O i j : Addr} {xs ys : List V} (D : ZipApart z N O i j a c) :
    Turn P w K (.Tuple elts kk tpos) (Izs K b b' a c xs ys) [z, N, O, i, j] z (Stz b b' a c z N O i j) where
  mem := List.mem_cons_self ..
  obj := fun k h st d hd => by
    obtain ⟨s1, s2, ⟨x, y, s3⟩, s4, s5⟩ := st
    exact five (P := fun d => ∃ o, h.get? d = some o ∧ ∀ v, o.data ≠ .cell v) hd ⟨_, s1, fun v q => nomatch q⟩ ⟨_, s2, fun v q => nomatch q⟩ ⟨_, s3, fun v q => nomatch q⟩ s4.ob s5.ob
  keep := fun k h g st kp => by
    obtain ⟨s1, s2, ⟨x, y, s3⟩, s4, s5⟩ := st
    exact ⟨kp _ (by simp) _ s1, kp _ (by simp) _ s2, ⟨x, y, kp _ (by simp) _ s3⟩, s4.to (kp _ (by simp)), s5.to (kp _ (by simp))⟩
  item := fun X hP hw hK hc k pins s σ H E I hf st go => by
    subst hP hw hK
    obtain ⟨s1, s2, ⟨x0, y0, s3⟩, s4, s5⟩ := st
    obtain ⟨⟨qx, qy⟩, lx, ly⟩ := go
    obtain ⟨us, ru, p1⟩ := qx.at I
    obtain ⟨vs, rv, p2⟩ := qy.at I
    obtain ⟨u, hu, r1⟩ := ru.get (List.getElem?_eq_getElem lx)
    obtain ⟨v, hv, r2⟩ := rv.get (List.getElem?_eq_getElem ly)
    have zl : z < s.heap.objs.size := Heap.lt_size s1
    refine next_item D s1 s2 s3 s4 s5 p1 p2 (u := u) (v := v) (by simpa using hu) (by simpa using hv) fun g z' o' i' j' new _ far => ⟨_, rfl, wpAny_letOwnedTupleGo_zip (s := { s with heap := g }) z' fun g2 z2 sb => ?_⟩
    have new2 : IsPair g2 s.heap.objs.size u v := (sb.2 _ (Nat.ne_of_gt zl)).trans new
    have keep : ∀ d o, d ∉ [z, N, O, i, j] → s.heap.get? d = some o → g2.get? d = some o := fun d o nd e => by
      obtain ⟨n1, _, n3, n4, n5⟩ := not5 nd
      exact (sb.2 _ n1).trans (far d o n1 n3 n4 n5 e)
    have ob : ObjOk X.prog X.w (upd H s.heap.objs.size (.tup [xs[k], ys[k]])) g2 s.heap.objs.size (.tup [xs[k], ys[k]]) := ⟨by show 2 ≤ sizeLine; decide, [u, v], .cons r1 (.cons r2 .nil), ⟨_, new2, rfl, _, rfl⟩⟩
    have J := I.turnedNew (t' := s.toks) (ch := [z, N, O, i, j]) (fun d o nd e => keep d o nd e) hf (Nat.le_refl _) ob
    refine ⟨.ref s.heap.objs.size, _, J, rfl, ⟨_, xs[k], ys[k], rfl, I.hok.fresh (Nat.le_refl _), rfl, List.getElem?_eq_getElem lx, List.getElem?_eq_getElem ly⟩, ⟨z2, (sb.2 _ D.TIz).trans (far _ _ D.TIz D.TITO D.TIi1 D.TIi2 s2), ⟨u, v, (sb.2 _ D.TOz).trans o'⟩, i'.to fun o e => (sb.2 _ D.i1z).trans e, j'.to fun o e => (sb.2 _ D.i2z).trans e⟩, fun d hd => ?_⟩
    have lt : d < s.heap.objs.size := five (P := fun d => d < s.heap.objs.size) hd zl (Heap.lt_size s2) (Heap.lt_size s3) s4.lt s5.lt
    rw [upd_ne (Nat.ne_of_lt lt)]
    exact (hf d hd).1
  done := fun X hP hw hK hc k pins s σ H E I hf st stop => by
    subst hP hw hK
    obtain ⟨s1, s2, ⟨x0, y0, s3⟩, s4, s5⟩ := st
    obtain ⟨⟨qx, qy⟩, over⟩ := stop
    obtain ⟨us, ru, p1⟩ := qx.at I
    obtain ⟨vs, rv, p2⟩ := qy.at I
    have l1 := ru.length
    have l2 := rv.length
    refine next_over (I.ok.hd hc) D s1 s2 s3 s4 s5 p1 p2 ?_ fun g far => ⟨rfl, I.turnedL (t' := s.toks) (ch := [z, N, O, i, j]) (fun d o nd e => ?_) hf⟩
    · rcases over with y | y
      · exact .inl (by simp; omega)
      · exact .inr (by simp; omega)
    · obtain ⟨n1, _, n3, n4, n5⟩ := not5 nd
      exact far d o n1 n3 n4 n5 e
  self := fun A k s Q E st q => wpAny_pyIter_zip st.1 q
def iZipE (K : PySem.W.Frag) (ta : TA) : TI := fun σ H R => ta σ H fun vs H1 => ∃ b b' a c xs ys, vs = [.ref a, .ref c] ∧ SqB K H1 b a xs ∧ SqB K H1 b' c ys ∧ R (Izs K b b' a c xs ys) H1
theorem pi_zipE {X : Cx} {e e2 : Expr} {ta : TA} {p pos tpos : Pos} {elts : List Expr} {kk : Nat} (hg : Gl X "zip") (hm : X.mg "zip" = none) (ha : PA X [e, e2] ta)
    (hs : starEach [e, e2] X.env = (false, eval e X.env) :: starEach [e2] X.env := by rfl) (hpl : (backTo pos (starEach [e2] X.env)).any (·.1) = false := by rfl) :
    PI X (.Tuple elts kk tpos) (.Call (.Name "zip" p) [e, e2] [] pos) (iZipE X.K ta) := ⟨fun pins s σ H R I h => by
  refine Call_ (ld_blt I hg hm PyProof.Rows.boot_zip (PyProof.Rows.callWith_type1 (thn (ha.run pos pins s σ H _ I h) fun us t ⟨vs, H1, J, r, q⟩ => ?_) hs hpl))
  obtain ⟨b, b', a, c, xs, ys, rfl, qx, qy, q⟩ := q
  obtain ⟨u1, u2, rfl, r1, r2⟩ := vals2 r
  cases (show u1 = Value.ref a from r1)
  cases (show u2 = Value.ref c from r2)
  obtain ⟨is1, rv1, p1⟩ := qx.at J
  obtain ⟨is2, rv2, p2⟩ := qy.at J
  refine call_zip p1 p2 fun g z1 n1 o1 i1 j1 kp => wpAny_pyIter_zip z1 ?_
  have J2 : Inv X pins σ H1 { t with heap := g } := J.kept (t' := t.toks) kp
  exact ⟨t.heap.objs.size + 4, [t.heap.objs.size + 4, t.heap.objs.size + 2, t.heap.objs.size + 3, t.heap.objs.size, t.heap.objs.size + 1], _, _, H1, rfl, J2, turn_zs (PySem.W.ktu_apart t.heap.objs.size a c p1.lt p2.lt), ⟨z1, n1, ⟨_, _, o1⟩, i1, j1⟩, fun d hd => by
    have le : t.heap.objs.size ≤ d := five (P := fun d => t.heap.objs.size ≤ d) hd (Nat.le_add_right _ _) (Nat.le_add_right _ _) (Nat.le_add_right _ _) (Nat.le_refl _) (Nat.le_add_right _ _)
    exact J.fpOk le (J.hok.fresh le), q⟩⟩
/-- a loop over a zip of sequences of one length -/
theorem for_zs {K : PySem.W.Frag} {b b' : Bool} {a c : Addr} {xs ys : List V} {g : TG} {tb : TS} {D : Ends} {σ : L2.St} {H : Hp} (hl : xs.length = ys.length) (Pv : Nat → L2.St → Hp → Prop) (h0 : Pv 0 σ H) (hq : ∀ i σ H, Pv i σ H → SqB K H b a xs ∧ SqB K H b' c ys)
    (hs : ∀ (i : Nat) (x y : V) (T : Addr) (σ : L2.St) (H : Hp), xs[i]? = some x → ys[i]? = some y → Pv i σ H → H T = none → g (.ref T) σ (upd H T (.tup [x, y])) fun σ2 H2 => tb { D with nx := Pv (i + 1), ct := Pv (i + 1), bk := D.nx } σ2 H2) (hd : ∀ σ H, Pv xs.length σ H → D.nx σ H) :
    ∃ W : Nat → Nat → L2.St → Hp → Prop, (∃ m, W 0 m σ H) ∧ ∀ i m σ H, W i m σ H →
      ((Izs K b b' a c xs ys).stop i H ∧ D.nx σ H) ∨ ((Izs K b b' a c xs ys).go i H ∧ ∃ N : L2.St → Hp → Prop, (∀ σ' H', N σ' H' → ∃ m', m' < m ∧ W (i + 1) m' σ' H') ∧ ∀ v H', (Izs K b b' a c xs ys).yld i H v H' → g v σ H' fun σ2 H2 => tb { D with nx := N, ct := N, bk := D.nx } σ2 H2) := by
  refine ⟨fun i m σ H => m + i = xs.length ∧ Pv i σ H, ⟨xs.length, rfl, h0⟩, fun i m σ H ⟨e, pv⟩ => ?_⟩
  match m, e with
  | 0, e =>
    have e' : i = xs.length := by omega
    rw [e'] at pv ⊢
    exact .inl ⟨⟨hq _ _ _ pv, .inl (Nat.le_refl _)⟩, hd _ _ pv⟩
  | m + 1, e =>
    refine .inr ⟨⟨hq _ _ _ pv, by omega, by omega⟩, Pv (i + 1), fun σ' H' p => ⟨m, Nat.lt_succ_self m, by omega, p⟩, fun v H' y => ?_⟩
    obtain ⟨T, x, y, rfl, hT, rfl, hx, hy⟩ := y
    exact hs i x y T σ H hx hy pv hT
end Pz
set_option Elab.async false
set_option linter.all false
set_option maxRecDepth 100000
set_option maxHeartbeats 4000000
namespace Pu
open PySem PySem.Spec PyProof.Rows L2 GxR Evl Pz
variable {K : PySem.W.Frag} {te : TE} {ta : TA} {tt : TT} {σ : L2.St} {H H' : Hp} {xs ys : List V} {a c : Addr} {j k : Nat}
theorem SqB.of (h : SqE K H a xs) : ∃ b, SqB K H b a xs := h.elim (fun q => ⟨true, q⟩) fun q => ⟨false, q⟩
theorem SqB.e {b : Bool} (h : SqB K H b a xs) : SqE K H a xs := by
  cases b with
  | true => exact .inl h
  | false => exact .inr h
theorem SqB.ex {b : Bool} (h : SqB K H b a xs) (e : Ex H H') : SqB K H' b a xs := by
  cases b with
  | true => exact ex_t e h
  | false => exact ex_l e h
theorem walk_zs {b b' : Bool} : Walk (Izs K b b' a c xs ys) (min xs.length ys.length) (fun H => SqB K H b a xs ∧ SqB K H b' c ys) (YPair (fun i => xs[i]?) (fun i => ys[i]?)) := by
  refine ⟨fun i _ hi q => ⟨q, by omega, by omega⟩, fun _ q => ⟨q, by omega⟩, fun i H v H' _ q y => y⟩
/-- slices of either, the whole of a tuple among them -/
theorem es_slA {tl2 th : TO} {lo hi : Option Int} (h : Ev te σ H (.ref a)) (h1 : EvO tl2 σ H lo) (h2 : EvO th σ H hi) (hs : SqE K H a xs) : Es K (tSl (fun x lo hi H Q => rSlL K x lo hi H Q ∨ rSlA K x lo hi H Q) te tl2 th) σ H (cutV xs lo hi) := fun H1 e Q kk =>
  h H1 e _ fun H2 e2 => h1 H2 (e.trans e2) _ fun H3 e3 => h2 H3 ((e.trans e2).trans e3) _ fun H4 e4 => by
    have q := (((hs.ex e).ex e2).ex e3).ex e4
    rcases q with q | q
    · refine .inr ⟨a, xs, rfl, q, fun hw => kk a H4 ((e2.trans e3).trans e4) (.inl ?_), fun _ p hp => kk p _ (((e2.trans e3).trans e4).trans (Ex.new hp)) (.inl (SqT.of upd_same))⟩
      have : cutV xs lo hi = xs := by
        unfold cutV
        rw [hw.1, hw.2, List.drop_zero, Nat.sub_zero, List.take_length]
      rw [this]
      exact q
    · exact .inl ⟨a, xs, rfl, q, fun p hp => kk p _ (((e2.trans e3).trans e4).trans (Ex.new hp)) (.inr (SqL.of upd_same))⟩
theorem wipe_two {x y : V} (h : j ≠ k) : ((wipe σ [j, k]).set j (some x)).set k (some y) = (σ.set j (some x)).set k (some y) := by
  show (((σ.set k none).set j none).set j (some x)).set k (some y) = _
  rw [List.set_set, List.set_comm _ _ (Ne.symm h), List.set_set]
theorem wipe_two' {x y : V} (h : j ≠ k) : wipe ((σ.set j (some x)).set k (some y)) [j, k] = wipe σ [j, k] := by
  show (((σ.set j (some x)).set k (some y)).set k none).set j none = (σ.set k none).set j none
  rw [List.set_set, List.set_comm _ _ h, List.set_set]
/-- [e for a, b in zip(..)] -/
theorem el_lcZ {n : Nat} (v : Nat → V) (hn : n = 2) (hjk : j ≠ k) (hl : xs.length ≤ 40000)
    (h : ∀ H1, Ex H H1 → ∀ Q : List V → Hp → Prop, (∀ a c H2, Ex H1 H2 → SqE K H2 a xs → SqE K H2 c ys → Q [.ref a, .ref c] H2) → ta σ H1 Q)
    (he : ∀ i x y H', xs[i]? = some x → ys[i]? = some y → Ex H H' → Ev te ((σ.set j (some x)).set k (some y)) H' (v i)) :
    EvL (tLc (iZipE K ta) (gSeq K n (gCons (gName j) (gCons (gName k) gNil))) tYes te [j, k]) σ H ((List.range (min xs.length ys.length)).map v) := fun H1 e Q q =>
  h H1 e _ fun a c H2 e2 s1 s2 => by
    obtain ⟨b, q1⟩ := SqB.of s1
    obtain ⟨b', q2⟩ := SqB.of s2
    refine ⟨b, b', a, c, xs, ys, rfl, q1, q2, fun D' hD => ?_⟩
    refine lc_gen walk_zs (fun m H' acc => acc = (List.range m).map v) (by omega) hD (fun _ _ _ _ _ _ r => r) rfl (fun H ex => ⟨SqB.ex q1 ex, SqB.ex q2 ex⟩) ?_ ?_
    · intro i x Ha Hb acc hi ex y hR Qy Qn hy hn'
      obtain ⟨T, u1, u2, rfl, hT, rfl, h1, h2⟩ := y
      have e3 := Ex.new hT (o := .tup [u1, u2])
      subst hn
      refine ⟨T, _, rfl, .inl (SqT.of upd_same), rfl, _, _, rfl, _, _, rfl, rfl, ?_⟩
      rw [wipe_two hjk]
      refine ⟨wipe_two' hjk, yes_then (he i u1 u2 _ h1 h2 (((e.trans e2).trans ex).trans e3) _ (Ex.refl _) _ fun H4 e4 => hy _ _ (e3.trans e4) ?_)⟩
      rw [hR, List.range_succ, List.map_append]
      rfl
    · intro H4 acc e4 hD4 hR
      exact q D' H4 (ex_fresh e2 hD) (e2.trans e4) (by rw [hD4, hR])
end Pu
set_option Elab.async false
set_option linter.all false
set_option maxRecDepth 100000
set_option maxHeartbeats 4000000
namespace Pu
open PySem PySem.Spec PyProof.Rows L2 GxR Evl
theorem GenS.ofC {env : Env} {sc : Scope} {x : Str} (h1 : sc.kind = .function) (h2 : sc.isCoroutine = false) (h3 : ∀ y ∈ sc.names, y.2 ≠ .cell) (h4 : sc.names.lookup (".0" : Str) = some NameKind.local) (h5 : sc.names.lookup x = some .local)
    (h6 : ∀ y ∈ sc.names, y.2 = .free → env.scope.names.lookup y.1 = some .cell) (h7 : ∀ y, env.scope.names.lookup y = some .cell → ∃ c, env.cells.lookup y = some c) : GenS env sc x := ⟨h1, h2, h3, h4, h5, fun y hy e => h7 _ (h6 y hy e)⟩
theorem ev_le {P : Program} {w : World} {A : Around} {env : Env} {g : Heap} {a b : Expr} {pos : Pos} {i j : Int} (ha : EV P w A env g a (.int i)) (hb : EV P w A env g b (.int j)) (hm : behindInMarks .LtE b = false := by first | exact nobehind _ (by decide) (by decide) | rfl) :
    EV P w A env g (.Compare a [.LtE] [b] pos) (.bl (decide (i ≤ j))) := fun s Q E hx hQ => by
  refine wpAny_Compare1 (ha s _ E hx fun u h' tk r hk => ?_) hm
  refine hb { s with heap := h', toks := tk } _ E (fun b o e => hk b o (hx b o e)) fun u2 h2 t2 r2 k2 => ?_
  obtain ⟨t, rfl⟩ := r
  obtain ⟨t', rfl⟩ := r2
  exact le_int (hQ _ h2 t2 rfl fun b o e => k2 b o (hk b o e))
end Pu
namespace K08
open PySem PySem.Spec PyProof.Rows L2 GxR Pu Evl
/-- a span, as a pure def sees it -/
def SpG (g : Heap) (s : S5) (v : V) : Prop := ∃ a b its, v = .ref a ∧ SeqG g b a its ∧ Vals s.vs its
theorem SpG.mono {g h : Heap} {s : S5} {v : V} (x : SpG g s v) (e : Ext g h) : SpG h s v := by
  obtain ⟨a, b, its, rfl, q, r⟩ := x
  exact ⟨a, b, its, rfl, q.mono e, r⟩
def pBehind : List V → Heap → V → Prop := fun vs g u => ∃ s v, vs = [v] ∧ SpG g s v ∧ u = .int ((s.f : Int) + s.n)
def pWithin : List V → Heap → V → Prop := fun vs g u => ∃ s o v v', vs = [v, v'] ∧ SpG g s v ∧ SpG g o v' ∧ u = .bl (within s o)
section
variable {P : Program} {w : World} {K : PySem.W.Frag} {mg : Str → Option Value} {base : Heap} {Z : Tx} {c T : Addr}
theorem pf_behind {f : Addr} {fd : FuncData} (M : L2.Mod K mg base) (F : Fun K "behind" "behind" sBehind f fd) : PF P w K mg base 1 f fd ["span"] pBehind := by
  refine pf_ret M F scBehind rfl (by decide +kernel) (fun cdv A L g us vs v hr hx r hl h hn => ?_) fun vs g h v e q => ?_
  · obtain ⟨s, x, rfl, ⟨a, b, its, rfl, sq, rv⟩, rfl⟩ := h
    obtain ⟨u, rfl, ru⟩ := vals1 r
    obtain ⟨m, ns, hm⟩ := hn 0 "span" u rfl rfl
    obtain ⟨u0, t0, rfl, k0, q0⟩ := vals_cons rv
    obtain ⟨u1, t1, rfl, k1, q1⟩ := vals_cons q0
    have FR : FrP K mg base A (envOfC "behind" (defScope sBehind) L f cdv) g := ⟨M, hx, rfl, rfl, rfl, hr.hd⟩
    have val : ∀ {pos : Pos}, EV P w A (envOfC "behind" (defScope sBehind) L f cdv) g (.Name "span" pos) (.ref a) := ev_loc FR rfl ns hm ru
    exact ev_add (ev_ix (j := 0) FR val ev_int sq rfl k0) (ev_ix (j := 1) FR val ev_int sq rfl k1)
  · obtain ⟨s, x, h1, h2, h3⟩ := q
    exact ⟨s, x, h1, h2.mono e, h3⟩
theorem pf_within {f f1 : Addr} {fd d1 : FuncData} (M : L2.Mod K mg base) (F : Fun K "is_within" "is_within" sIsWithin f fd) (F1 : Fns K mg "behind" ["span"] sBehind f1 d1) : PF P w K mg base 2 f fd ["span", "other"] pWithin := by
  have G1 : PF P w K mg base 1 f1 d1 ["span"] pBehind := pf_behind M F1.fn
  refine pf_ret M F scIsWithin rfl (by decide +kernel) (fun cdv A L g us vs v hr hx r hl h hn => ?_) fun vs g h v e q => ?_
  · obtain ⟨s, o, x, y, rfl, hs, ho, rfl⟩ := h
    obtain ⟨u, u', rfl, ru, ru'⟩ := vals2 r
    obtain ⟨m, ns, hm⟩ := hn 0 "span" u rfl rfl
    obtain ⟨m', ns', hm'⟩ := hn 1 "other" u' rfl rfl
    obtain ⟨a, b, its, rfl, sq, rv⟩ := id hs
    obtain ⟨a', b', its', rfl, sq', rv'⟩ := id ho
    obtain ⟨u0, t0, rfl, k0, q0⟩ := vals_cons rv
    obtain ⟨v0, s0, rfl, l0, r0⟩ := vals_cons rv'
    have FR : FrP K mg base A (envOfC "is_within" (defScope sIsWithin) L f cdv) g := ⟨M, hx, rfl, rfl, rfl, hr.hd⟩
    have val : ∀ {pos : Pos}, EV P w A (envOfC "is_within" (defScope sIsWithin) L f cdv) g (.Name "span" pos) (.ref a) := ev_loc FR rfl ns hm ru
    have val' : ∀ {pos : Pos}, EV P w A (envOfC "is_within" (defScope sIsWithin) L f cdv) g (.Name "other" pos) (.ref a') := ev_loc FR rfl ns' hm' ru'
    refine EV.to (ev_and (x := decide ((o.f : Int) ≤ s.f)) (y := decide ((s.f : Int) + s.n ≤ (o.f : Int) + o.n)) (ev_le (ev_ix (j := 0) FR val' ev_int sq' rfl l0) (ev_ix (j := 0) FR val ev_int sq rfl k0)) fun _ => ev_one (ev_le
      (ev_pf FR G1 hr rfl F1.mg F1.fn.kp F1.bd (ea_cons val ea_nil) rfl fun h e => ⟨s, _, rfl, hs.mono e, rfl⟩) (ev_pf FR G1 hr rfl F1.mg F1.fn.kp F1.bd (ea_cons val' ea_nil) rfl fun h e => ⟨o, _, rfl, ho.mono e, rfl⟩))) ?_
    unfold within
    congr 1
    congr 1
    · exact decide_eq_decide.mpr (by omega)
    · exact decide_eq_decide.mpr (by omega)
  · obtain ⟨s, o, x, y, h1, h2, h3, h4⟩ := q
    exact ⟨s, o, x, y, h1, h2.mono e, h3.mono e, h4⟩
abbrev nParts : List Str := ["parts", "span", "one", "other"]
theorem scAreParts : FnScope nParts ["parts", "span"] (defScope sAreParts) := ⟨rfl, rfl, rfl, by decide +kernel, rfl, by decide +kernel, by decide +kernel⟩
def PartsP (L : List S5) (t : S5) : Prop := (∀ s ∈ L, within s t = true) ∧ ∀ (i : Nat) (s o : S5), L[i]? = some s → L[i + 1]? = some o → s.f + s.n ≤ o.f
def spParts (K : PySem.W.Frag) (Z : Tx) : Sp := fun vs H Q _ => ∃ (x v : V) (t : S5), vs = [x, v] ∧ Z.Ok H ∧ SpE K H t v ∧ ((AreS K H x false ∧ ∀ H', Go Z [] H H' → Q (.bl false) H') ∨
  ∃ (e : Addr) (xs : List V) (L : List S5), x = .ref e ∧ SqE K H e xs ∧ Paired (SpE K H) L xs ∧ (∀ s ∈ L, s.Ok) ∧ L.length ≤ 1000 ∧ ∀ (b : Bool) H', Go Z [] H H' → (b = true ↔ PartsP L t) → Q (.bl b) H')
variable {fAS fWi fBe : Addr} {dAS dWi dBe : FuncData}
theorem ok_are_parts {f : Addr} {fd : FuncData} (M : L2.Mod K mg base) (G : Mg mg) (F : FunC K "are_parts" "are_parts" sAreParts f fd c) (TB : TabB base mg c T) (hT : T ∈ Z.ts) (np : Z.p ∉ Z.ts) (C1 : Cal P w K mg base "are_spans" ["value"] sAreSpans 6 (spAreS K Z) fAS dAS)
    (F2 : Fns K mg "is_within" ["span", "other"] sIsWithin fWi dWi) (C3 : Cal P w K mg base "behind" ["span"] sBehind 1 (spBehind K) fBe dBe) : FnOk P w K mg base CX0 7 f fd ["parts", "span"] (spParts K Z) := by
  have G2 : PF P w K mg base 2 fWi dWi ["span", "other"] pWithin := pf_within M F2.fn C3.ns
  refine F.ok scAreParts (fun vs H Q E h => ?_) (fun A outer s H vs Q E hr h => ?_)
  · obtain ⟨x, v, t, rfl, _⟩ := h
    rfl
  · obtain ⟨x, v, t, rfl, hz, ht, h⟩ := h
    refine ⟨_, (pss_cons (ps_if (PW.pt (pw_or (pt_not (pt_val (pe_call C1.ok (hr.mono (by decide)) (by rfl) C1.ns.mg C1.ns.fn.kp C1.ns.bd .nil pass0 (pa_cons (pv 0) pa_nil)))) (pw_or1 (pt_not (pt_val (pe_allC (k := 4) (T := T) (c := c) (hr.mono (by decide)) (by rfl) G.all TB rfl (GenS.ofC rfl rfl (by decide +kernel) rfl rfl (by (show ∀ (y : Str × NameKind), y ∈ _ → _ → (defScope sAreParts).names.lookup y.1 = some NameKind.cell); decide +kernel) fun y h => cell_has h) (pv 0))))))) (pss_one (ps_ret pe_bl)) pss_nil)
      (pss_one (ps_ret (pe_callB (cr_all rfl) (by rfl) G.all boot_all (pa_cons (pe_lc (own := [("one", 2), ("other", 3)]) (g := gSeq K 2 (gCons (gName 2) (gCons (gName 3) gNil))) (te := (tOp (rI0 fun i j => .bl (decide (i ≤ j))) (tCall (spBehind K) [] E0 (tCons (tVar 2) tNil)) (tOp (rIx K) (tVar 3) (tC (.int 0))))) (by rfl) scAreParts.nd (Pz.pi_zipE (by rfl) G.zip (pa_cons (pv 0) (pa_cons (pe_slice (sl_list.or sl_tupA) (pv 0) (po_some pe_int) po_none) pa_nil))) (blkOk_by (own := [("one", 2), ("other", 3)]) (N := nParts) (sc := defScope sAreParts) (by decide +kernel)) (fun _ _ _ _ _ => (pg_seq rfl (pgs_cons (pg_name (i := 2) scAreParts.nd rfl (.inl rfl)) (pgs_cons (pg_name (i := 3) scAreParts.nd rfl (.inl rfl)) pgs_nil)))) (fun _ _ _ _ _ => pts_nil) (fun _ _ _ _ _ => (pe_cmpR op_le (pe_call C3.ok (hr.mono (by decide)) (by rfl) C3.ns.mg C3.ns.fn.kp C3.ns.bd .nil pass0 (pa_cons (pv 2) pa_nil)) (pe_ix ix_seq (pv 3) pe_int (fun _ _ => rfl)) (nomark _)))) pa_nil))))), ?_⟩
    rcases h with ⟨ha, kk⟩ | ⟨e, xs, L, rfl, he, hw, ok, hl, kk⟩
    · exact ⟨x, rfl, x, false, rfl, ha, hz, fun H1 g1 => ⟨_, rfl, kk H1 g1⟩⟩
    · refine ⟨.ref e, rfl, .ref e, true, rfl, AreS.of he hw ok, hz, fun H1 g1 => ⟨_, rfl, ?_⟩⟩
      refine ite2 (fun z => nomatch z) fun _ => ?_
      have he1 := SqE.go he g1
      have hw1 := Paired.mapP hw fun _ _ h => h.go g1
      have ht1 := ht.go g1
      have hxl : L.length = xs.length := Paired.length hw
      have bl : (L.map fun s => within s t).length = xs.length := by rw [List.length_map, hxl]
      refine ⟨.ref e, rfl, e, xs, fun i => (L.map fun s => within s t).getD i false, rfl, he1, g1.ok.gs T hT, ?_, fun H4 t4 => ⟨_, rfl, ?_⟩⟩
      · intro B' cenv g i v' u hrm hs hg' hb hx hn hi rv ok cap
        obtain ⟨m, ns, hm⟩ := hn
        have FR : FrP K mg base B' cenv g := ⟨M, hx, by rw [hs], hg', hb, hrm.hd⟩
        obtain ⟨s', hs', b, rfl, hb1⟩ := Paired.atR hw1 hi
        obtain ⟨b2, rfl, hb2⟩ := ht1
        obtain ⟨bb, its, rvs, sq⟩ := seq_at (g1.ok.gs T hT) ok (M.kin.keeps hx) hb1
        obtain ⟨bb2, its2, rvs2, sq2⟩ := seq_at (g1.ok.gs T hT) ok (M.kin.keeps hx) hb2
        obtain ⟨u2, c2, r2, hc2, ho2⟩ := cap 1 "span" (.ref b2) rfl rfl rfl rfl
        have hk : cenv.scope.kind = .function := by rw [hs]
        have val : ∀ {pos : Pos}, EV P w B' cenv g (.Name "part" pos) (.ref b) := ev_loc FR (by show cenv.scope.names.lookup _ = _; rw [hs]; rfl) ns hm rv
        have val2 : ∀ {pos : Pos}, EV P w B' cenv g (.Name "span" pos) (.ref b2) := ev_cap hk (by rw [hs]; rfl) r2 hc2 ho2
        have e5 : (L.map fun s => within s t).getD i false = within s' t := by rw [List.getD_eq_getElem?_getD, List.getElem?_map, hs']; rfl
        show EV P w B' cenv g _ (.bl ((L.map fun s => within s t).getD i false))
        rw [e5]
        exact ev_pf FR G2 (hrm.mono (by decide)) (by show cenv.scope.names.lookup _ = _; rw [hs]; rfl) F2.mg F2.fn.kp F2.bd (Pu.ea_cons val (Pu.ea_cons val2 Pu.ea_nil)) rfl fun h e => ⟨s', t, _, _, rfl, ⟨_, _, _, rfl, sq.mono e, rvs⟩, ⟨_, _, _, rfl, sq2.mono e, rvs2⟩, rfl⟩
      · have e6 : (List.range xs.length).all (fun i => (L.map fun s => within s t).getD i false) = (L.map fun s => within s t).all id := by
          rw [← bl]
          exact range_all _
        rw [e6]
        have g4 : Go Z [] H H4 := g1.trans (Go.tab g1.ok hT np t4)
        have he4 := SqE.go he g4
        have hw4 := Paired.mapP hw fun _ _ h => h.go g4
        have wi : (L.map fun s => within s t).all id = true ↔ ∀ s ∈ L, within s t = true := by
          rw [List.all_eq_true]
          constructor
          · intro h s hs
            exact h _ (List.mem_map.mpr ⟨s, hs, rfl⟩)
          · intro h b hb
            obtain ⟨s, hs, rfl⟩ := List.mem_map.mp hb
            exact h s hs
        cases hb : (L.map fun s => within s t).all id with
        | false =>
          refine ite2 (fun _ => ?_) fun z => absurd rfl z
          exact kk false H4 g4 ⟨(fun z => nomatch z), fun p => by
            have := wi.mpr p.1
            rw [hb] at this
            exact this.symm ▸ rfl⟩
        | true =>
          refine ite2 (fun z => nomatch z) fun _ => ?_
          have cl : cutV xs (some (1 : Int)) none = xs.drop 1 := by
            unfold cutV
            rw [show (1 : Int) = ((1 : Nat) : Int) by rfl, HT.sIx_nat, HT.sIx_none]
            by_cases h0 : 1 ≤ xs.length
            · rw [Nat.min_eq_left h0, List.take_of_length_le (by simp)]
            · have : xs = [] := List.eq_nil_of_length_eq_zero (by omega)
              subst this
              rfl
          have ml : min xs.length (xs.drop 1).length = L.length - 1 := by rw [List.length_drop, hxl]; omega
          let ok2 : Nat → Bool := fun i => match L[i]?, L[i + 1]? with | some s, some o => decide (s.f + s.n ≤ o.f) | _, _ => false
          have bl2 : (List.range (L.length - 1)).length = L.length - 1 := List.length_range
          have el := el_lcZ (K := K) (σ := [some (.ref e), some v, none, none]) (H := H4) (xs := xs) (ys := xs.drop 1) (n := 2) (j := 2) (k := 3)
            (ta := tCons (tVar 0) (tCons (tSl (fun x lo hi H Q => rSlL K x lo hi H Q ∨ rSlA K x lo hi H Q) (tVar 0) (tPart (tC (.int 1))) tNoPart) tNil))
            (te := tOp (rI0 fun i j => .bl (decide (i ≤ j))) (tCall (spBehind K) [] E0 (tCons (tVar 2) tNil)) (tOp (rIx K) (tVar 3) (tC (.int 0)))) (fun i => .bl (ok2 i)) rfl (by decide) (by omega)
            (fun H1 e1 Q q => ⟨.ref e, rfl, by
              have es := es_slA (σ := [some (.ref e), some v, none, none]) (H := H1) (K := K) (te := tVar 0) (tl2 := tPart (tC (.int 1))) (th := tNoPart) (a := e) (xs := xs) (ev_var rfl) (eo_some ev_c) eo_none (SqE.ex he4 e1)
              refine es H1 (Ex.refl _) _ fun a2 H2 e2 sq => ?_
              rw [cl] at sq
              exact q e a2 H2 e2 (SqE.ex (SqE.ex he4 e1) e2) sq⟩)
            (fun i x y H' hx hy e' => by
              rw [List.getElem?_drop] at hy
              obtain ⟨s1, hs1, hp1⟩ := Paired.atR hw4 hx
              obtain ⟨s2, hs2, hp2⟩ := Paired.atR hw4 hy
              have hs2' : L[i + 1]? = some s2 := by rw [← hs2]; congr 1; omega
              obtain ⟨b2, rfl, q2⟩ := id hp2
              have e7 : ok2 i = decide (((s1.f + s1.n : Nat) : Int) ≤ (s2.f : Int)) := by
                show (match L[i]?, L[i + 1]? with | some s, some o => decide (s.f + s.n ≤ o.f) | _, _ => false) = _
                rw [hs1, hs2']
                exact decide_eq_decide.mpr (by omega)
              show Ev _ _ _ (.bl (ok2 i))
              rw [e7]
              exact ev_op (ev_call (ea_cons (ev_var rfl) ea_nil) (spBehind.use (hp1.ex e'))) (ev_op (ev_var rfl) ev_c (rv_ixE (SqE.ex q2 e') (ix0 s2))) rv_I0)
          rw [ml] at el
          have e8 : (List.range (L.length - 1)).map (fun i => V.bl (ok2 i)) = ((List.range (L.length - 1)).map ok2).map V.bl := by rw [List.map_map]; rfl
          rw [e8] at el
          refine nx_of ?_
          refine s_retCB el fun p H5 e5 h5 => ⟨p, _, rfl, SqL.of h5, ?_⟩
          refine kk _ H5 (g4.then e5) ⟨fun z => ⟨wi.mp hb, fun i s o h1 h2 => ?_⟩, fun p => ?_⟩
          · have z2 := List.all_eq_true.mp z (ok2 i) (List.mem_map.mpr ⟨i, List.mem_range.mpr (by
              have := (List.getElem?_eq_some_iff.mp h2).1
              omega), rfl⟩)
            have z3 : (match L[i]?, L[i + 1]? with | some s, some o => decide (s.f + s.n ≤ o.f) | _, _ => false) = true := z2
            rw [h1, h2] at z3
            exact of_decide_eq_true z3
          · refine List.all_eq_true.mpr fun b hb => ?_
            obtain ⟨i, hi, rfl⟩ := List.mem_map.mp hb
            have hi := List.mem_range.mp hi
            show (match L[i]?, L[i + 1]? with | some s, some o => decide (s.f + s.n ≤ o.f) | _, _ => false) = true
            rw [List.getElem?_eq_getElem (show i < L.length by omega), List.getElem?_eq_getElem (show i + 1 < L.length by omega)]
            exact decide_eq_true (p.2 i _ _ (List.getElem?_eq_getElem (by omega)) (List.getElem?_eq_getElem (by omega)))
end
end K08
set_option Elab.async false
set_option linter.all false
set_option maxRecDepth 100000
set_option maxHeartbeats 4000000
namespace Pu
open PySem PySem.Spec PyProof.Rows L2 GxR Evl
/-- a .. b - 1 -/
def rgN (a b : Nat) : List Nat := (List.range (b - a)).map (a + ·)
def natsV (cs : List Nat) : List V := cs.map fun c => V.int (c : Nat)
theorem rgV_nat (a b : Nat) : rgV (a : Int) (b : Int) = natsV (rgN a b) := by
  unfold rgV natsV rgN
  rw [List.map_map, show ((b : Int) - a).toNat = b - a by omega]
  refine List.map_congr_left fun i _ => ?_
  show V.int ((a : Int) + (i : Nat)) = V.int ((a + i : Nat) : Int)
  congr 1
theorem rgN_len (a b : Nat) : (rgN a b).length = b - a := by unfold rgN; rw [List.length_map, List.length_range]
theorem el_rg {ta tb : TE} {σ : L2.St} {H : Hp} {a b : Nat} (ha : Ev ta σ H (.int (a : Int))) (hb : Ev tb σ H (.int (b : Int))) (h1 : a ≤ 100000) (h2 : b ≤ 100000) : EvL (tLstRg (tRg2 ta tb)) σ H (natsV (rgN a b)) := fun H1 e Q q =>
  ha H1 e _ fun H2 e2 => hb H2 (e.trans e2) _ fun H3 e3 => ⟨a, b, rfl, rfl, RgOk.of_le (by omega) (by omega) (by omega) (by omega), fun p hp => by
    rw [rgV_nat]
    exact q p _ (ex_fresh (e2.trans e3) hp) ((e2.trans e3).trans (Ex.new hp)) upd_same⟩
end Pu
namespace K08
open PySem PySem.Spec PyProof.Rows L2 GxR Pu Evl
/-- the rows from f to l, those of spans left out -/
def rowsB (l : Nat) : Nat → List S5 → List Nat
  | f, [] => rgN f l
  | f, s :: r => rgN f s.f ++ rowsB l (s.f + s.n) r
abbrev nRows : List Str := ["first", "last", "parts", "rows", "row", "part"]
theorem scRowsBetween : FnScope nRows ["first", "last", "parts"] (defScope sRowsBetween) := ⟨rfl, rfl, rfl, by decide +kernel, rfl, by decide +kernel, by decide +kernel⟩
def spRows (K : PySem.W.Frag) : Sp := fun vs H Q _ => ∃ (f l : Nat) (e : Addr) (xs : List V) (L : List S5), vs = [.int (f : Int), .int (l : Int), .ref e] ∧ SqE K H e xs ∧ Paired (SpE K H) L xs ∧ L.length ≤ 50 ∧ f ≤ 1000 ∧ l ≤ 1000 ∧ (∀ s ∈ L, s.f + s.n ≤ 1000) ∧
  ∀ p H', H p = none → Ex H H' → H' p = some (.lst (natsV (rowsB l f L))) → Q (.ref p) H'
section
variable {P : Program} {w : World} {K : PySem.W.Frag} {mg : Str → Option Value} {base : Heap} {Z : Tx}
variable {fBe : Addr} {dBe : FuncData}
theorem ok_rows_between {f : Addr} {fd : FuncData} (G : Mg mg) (F : Fun K "rows_between" "rows_between" sRowsBetween f fd) (C1 : Cal P w K mg base "behind" ["span"] sBehind 1 (spBehind K) fBe dBe) : FnOk P w K mg base CX0 2 f fd ["first", "last", "parts"] (spRows K) := by
  refine F.ok scRowsBetween (fun vs H Q E h => ?_) (fun cdv A outer s H vs Q E hr h => ?_)
  · obtain ⟨f0, l, e, xs, L, rfl, _⟩ := h
    rfl
  · obtain ⟨f0, l, e, xs, L, rfl, he, hw, hl, hf, hl2, hb, kk⟩ := h
    refine ⟨_, (pss_cons (ps_set (i := 3) scRowsBetween.nd rfl (.inl rfl) (pe_lst pa_nil))
      (pss_cons (ps_set (i := 4) scRowsBetween.nd rfl (.inl rfl) (pv 0))
      (pss_cons (ps_for PassesOwn.never rfl (pi_or (pi_list (pv 2)) (pi_tup (pv 2))) (pg_name (i := 5) scRowsBetween.nd rfl (.inl rfl))
          (pss_cons (ps_expr (pe_bm PySem.F.plainAttrs_list PySem.F.slot_list_extend PySem.F.type_list_extend mt_extend (pv 3) (pa_cons (pe_listRg rfl (by rfl) G.list (prg_2 (by rfl) G.range (pv 4) (pe_ix ix_seq (pv 5) pe_int (fun _ _ => rfl)))) pa_nil)))
          (pss_one (ps_set (i := 4) scRowsBetween.nd rfl (.inl rfl) (pe_call C1.ok (hr.mono (by decide)) (by rfl) C1.ns.mg C1.ns.fn.kp C1.ns.bd .nil pass0 (pa_cons (pv 5) pa_nil))))))
      (pss_one (ps_ret (pe_op op_cat (pv 3) (pe_listRg rfl (by rfl) G.list (prg_2 (by rfl) G.range (pv 4) (pv 1))))))))), ?_⟩
    have hxl : L.length = xs.length := Paired.length hw
    refine q_asgL (el_lst (ea_nil) (by decide)) fun p H1 hp e1 h1 => ?_
    refine q_asg (v := .int (f0 : Int)) (ev_var rfl) fun H2 e2 => ?_
    have e12 := e1.trans e2
    refine (fun (main : ∀ (J : It) (Gd : Hp → Prop), Walk J xs.length Gd (YAt xs) → (∀ H', Ex H H' → Gd H') → _) =>
        he.elim (fun q => .inr ⟨.ref e, rfl, e, rfl, ⟨xs, ex_t e12 q⟩, main _ _ walk_tup fun H' ex => ex_t ex q⟩) (fun q => .inl ⟨.ref e, rfl, e, rfl, ⟨xs, ex_l e12 q⟩, main _ _ walk_list fun H' ex => ex_l ex q⟩))
      (fun J Gd wk hG => for_it wk (fun i σ' H' => ∃ (r : Nat) (y5 : Option V) (acc : List Nat), σ' = [some (.int (f0 : Int)), some (.int (l : Int)), some (.ref e), some (.ref p), some (.int (r : Int)), y5] ∧ Ex H H' ∧ H' p = some (.lst (natsV acc)) ∧
      acc ++ rowsB l r (L.drop i) = rowsB l f0 L ∧ r ≤ 1000 ∧ acc.length ≤ 1000 * i)
      ⟨f0, none, [], rfl, e12, e2 _ _ h1, by rw [List.drop_zero]; rfl, hf, Nat.zero_le _⟩ (fun i σ' H' _ q => by obtain ⟨_, _, _, _, ex, _⟩ := q; exact hG _ ex) ?_ ?_)
    · intro i x σ' Ha Hb hi hPv hy
      obtain ⟨r, y5, acc, rfl, ex, hpa, inv, hr0, hal⟩ := hPv
      obtain ⟨rfl, hx⟩ := hy
      obtain ⟨s, hs, hp1⟩ := Paired.atR hw hx
      have hp2 := hp1.ex ex
      obtain ⟨b, rfl, q1⟩ := id hp2
      have hbs := hb s (List.mem_of_getElem? hs)
      have dr : L.drop i = s :: L.drop (i + 1) := by
        have il := (List.getElem?_eq_some_iff.mp hs).1
        rw [List.drop_eq_getElem_cons il, (List.getElem?_eq_some_iff.mp hs).2]
      have il : i < L.length := (List.getElem?_eq_some_iff.mp hs).1
      have el := el_rg (σ := [some (.int (f0 : Int)), some (.int (l : Int)), some (.ref e), some (.ref p), some (.int (r : Int)), some (.ref b)]) (H := Hb) (ta := tVar 4) (tb := tOp (rIx K) (tVar 5) (tC (.int 0))) (a := r) (b := s.f) (ev_var rfl) (ev_op (ev_var rfl) ev_c (rv_ixE q1 (ix0 s))) (by omega) (by omega)
      refine ⟨.ref p, rfl, .inl ⟨rfl, _, SqL.of hpa⟩, el _ (Ex.refl _) _ fun q H3 hq e3 h3 => ⟨p, q, natsV acc, natsV (rgN r s.f), rfl, rfl, e3 _ _ hpa, h3, ?_, ?_⟩⟩
      · unfold natsV
        rw [List.length_map, List.length_map, rgN_len]
        exact Nat.le_trans (show acc.length + (s.f - r) ≤ 100000 by omega) (by decide)
      · have ex4 : Ex H (upd H3 p (.lst (natsV acc ++ natsV (rgN r s.f)))) := Ex.mut (ex.trans e3) hp
        refine s_asg (v := .int ((s.f + s.n : Nat) : Int)) (ev_call (ea_cons (ev_var rfl) ea_nil) (spBehind.use (hp1.ex ex4))) fun H5 e5 => ?_
        refine ⟨s.f + s.n, _, acc ++ rgN r s.f, rfl, ex4.trans e5, ?_, ?_, hbs, ?_⟩
        · rw [e5 _ _ upd_same]
          unfold natsV
          rw [List.map_append]
        · rw [← inv, dr, List.append_assoc]
          rfl
        · rw [List.length_append, rgN_len]
          omega
    · intro σ' H' hPv
      obtain ⟨r, y5, acc, rfl, ex, hpa, inv, hr0, hal⟩ := hPv
      have el := el_rg (σ := [some (.int (f0 : Int)), some (.int (l : Int)), some (.ref e), some (.ref p), some (.int (r : Int)), y5]) (H := H') (ta := tVar 4) (tb := tVar 1) (a := r) (b := l) (ev_var rfl) (ev_var rfl) (by omega) (by omega)
      refine ⟨.ref p, rfl, el _ (Ex.refl _) _ fun q H3 hq e3 h3 => ⟨p, q, natsV acc, natsV (rgN r l), rfl, rfl, e3 _ _ hpa, h3, ?_, fun t ht => ?_⟩⟩
      · unfold natsV
        rw [List.length_map, List.length_map, rgN_len]
        exact Nat.le_trans (show acc.length + (l - r) ≤ 100000 by omega) (by decide)
      · refine kk t _ (ex_fresh (ex.trans e3) ht) ((ex.trans e3).trans (Ex.new ht)) ?_
        rw [upd_same, ← inv, ← hxl, List.drop_length]
        unfold natsV
        rw [← List.map_append]
        rfl
end
end K08
set_option Elab.async false
set_option linter.all false
set_option maxRecDepth 100000
set_option maxHeartbeats 4000000
namespace K08
open PySem PySem.Spec PyProof.Rows L2 GxR Pu Evl
abbrev nRest : List Str := ["span", "parts", "rows", "part"]
theorem scRest : FnScope nRest ["span", "parts"] (defScope sRest) := ⟨rfl, rfl, rfl, by decide +kernel, rfl, by decide +kernel, by decide +kernel⟩
/-- what is handed back, what is refused -/
def spRest (K : PySem.W.Frag) (Z : Tx) (C : Addr) : Sp := fun vs H Q E => ∃ x y, vs = [x, y] ∧ Z.Ok H ∧
  ((SpanH K H x false ∧ ∀ d H', Go Z [] H H' → H' d = none → E (.ref C) (some d) (upd H' d (.xd [("at", x)]))) ∨
   ∃ t : S5, SpE K H t x ∧ t.Ok ∧ t.f + t.n ≤ 1000 ∧
    ((AreS K H y false ∧ ∀ d H', Go Z [] H H' → H' d = none → E (.ref C) (some d) (upd H' d (.xd [("at", y)]))) ∨
     ∃ (e : Addr) (xs : List V) (L : List S5), y = .ref e ∧ SqE K H e xs ∧ Paired (SpE K H) L xs ∧ (∀ s ∈ L, s.Ok) ∧ L.length ≤ 50 ∧
      ((¬ PartsP L t ∧ ∀ d H', Go Z [] H H' → H' d = none → E (.ref C) (some d) (upd H' d (.xd [("at", y)]))) ∨
       (PartsP L t ∧ ∀ p r H', H p = none → H r = none → Go Z [] H H' → H' r = some (.tup (natsV (rowsB (t.f + t.n) t.f L))) → H' p = some (.tup [.ref r, .int (t.w - (L.map (·.w)).sum)]) → Q (.ref p) H'))))
section
variable {P : Program} {w : World} {K : PySem.W.Frag} {mg : Str → Option Value} {base : Heap} {Z : Tx}
variable {fSp fAP fRB fBe fI C : Addr} {dSp dAP dRB dBe dI : FuncData}
theorem range_int (is : List Int) : (List.range is.length).map (fun k => V.int (is.getD k 0)) = is.map V.int := by
  apply List.ext_getElem?
  intro k
  rw [List.getElem?_map, List.getElem?_map]
  by_cases h : k < is.length
  · rw [List.getElem?_range h, List.getElem?_eq_getElem h, Option.map_some, Option.map_some, List.getD_eq_getElem?_getD, List.getElem?_eq_getElem h]
    rfl
  · rw [List.getElem?_eq_none (by simpa using h), List.getElem?_eq_none (by omega)]
    rfl
theorem spSpan_use {H : Hp} {x : V} {b : Bool} (M : L2.Mod K mg base) (h : SpanH K H x b) : SpV (spPure P w base ["value"] pSpan) [x] H (.bl b) := spPure.use rfl fun H1 e g ok bx => by
  refine ⟨x, b, rfl, ?_, rfl⟩
  have h1 := h.go (H1 := H1) fun _ _ q => SqE.ex q e
  cases h1 with
  | no hf =>
    obtain ⟨t, ty, hs⟩ := flat_ty (g := g) hf
    exact .few (.no ty hs) (fun z => nomatch z)
  | few q n =>
    obtain ⟨bb, its, rvs, sq⟩ := TyG.of_sq ok (M.kin.keeps bx) q
    refine .few (.seq sq) fun z => n ?_
    rw [rvs.length]
    exact Option.some.inj z
  | five q fl n9 =>
    obtain ⟨bb, its, rvs, sq⟩ := TyG.of_sq ok (M.kin.keeps bx) q
    obtain ⟨u1, r1, rfl, k1, q1⟩ := vals_cons rvs
    obtain ⟨u2, r2, rfl, k2, q2⟩ := vals_cons q1
    obtain ⟨u3, r3, rfl, k3, q3⟩ := vals_cons q2
    obtain ⟨u4, u5, rfl, k4, k5⟩ := vals2 q3
    obtain ⟨t1, y1, _⟩ := flat_ty (g := g) (fl _ (List.mem_cons_self ..))
    obtain ⟨t2, y2, _⟩ := flat_ty (g := g) (fl _ (List.mem_cons_of_mem _ (List.mem_cons_self ..)))
    obtain ⟨t3, y3, _⟩ := flat_ty (g := g) (fl _ (List.mem_cons_of_mem _ (List.mem_cons_of_mem _ (List.mem_cons_self ..))))
    obtain ⟨t4, y4, _⟩ := flat_ty (g := g) (fl _ (List.mem_cons_of_mem _ (List.mem_cons_of_mem _ (List.mem_cons_of_mem _ (List.mem_cons_self ..)))))
    obtain ⟨t5, y5, _⟩ := flat_ty (g := g) (fl _ (List.mem_cons_of_mem _ (List.mem_cons_of_mem _ (List.mem_cons_of_mem _ (List.mem_cons_of_mem _ (List.mem_cons_self ..))))))
    exact .five sq k1 k2 k3 k4 k5 y1 y2 y3 y4 y5 n9
theorem ok_rest {f : Addr} {fd : FuncData} (M : L2.Mod K mg base) (G : Mg mg) (R : RefC K C fI) (FI : FnOk P w K mg base CX0 1 fI dI ["self", "at"] (spInitAt C)) (bI : Binds K dI ["self", "at"] []) (mC : mg "Refused" = some (.ref C))
    (F : Fun K "rest" "rest" sRest f fd) (C1 : Cal P w K mg base "is_span" ["value"] sIsSpan 4 (spPure P w base ["value"] pSpan) fSp dSp) (C2 : Cal P w K mg base "are_parts" ["parts", "span"] sAreParts 7 (spParts K Z) fAP dAP)
    (C3 : Cal P w K mg base "rows_between" ["first", "last", "parts"] sRowsBetween 2 (spRows K) fRB dRB) (C4 : Cal P w K mg base "behind" ["span"] sBehind 1 (spBehind K) fBe dBe) : FnOk P w K mg base (L2.CX P w) 8 f fd ["span", "parts"] (spRest K Z C) := by
  refine F.okX scRest (fun vs H Q E h => ?_) (fun cdv A outer s H vs Q E hr h => ?_)
  · obtain ⟨x, y, rfl, _⟩ := h
    rfl
  · obtain ⟨x, y, rfl, hz, h⟩ := h
    have tk : Takes (cxOf (L2.CX P w) P w K mg base nRest "rest" (defScope sRest) f cdv A outer s H E) (fun cls d _ H' => E cls d H') := takes_of (X := cxOf (L2.CX P w) P w K mg base nRest "rest" (defScope sRest) f cdv A outer s H E) rfl rfl rfl rfl
    refine ⟨_, (pss_cons (ps_if (pt_not (pt_val (pe_call C1.ok (hr.mono (by decide)) (by rfl) C1.ns.mg C1.ns.fn.kp C1.ns.bd .nil pass0 (pa_cons (pv 0) pa_nil)))) (pss_one (ps_ref R FI (hr.mono (by decide)) bI rfl tk rfl mC (pv 0))) pss_nil)
      (pss_cons (ps_if (pt_not (pt_val (pe_call C2.ok (hr.mono (by decide)) (by rfl) C2.ns.mg C2.ns.fn.kp C2.ns.bd .nil pass0 (pa_cons (pv 1) (pa_cons (pv 0) pa_nil))))) (pss_one (ps_ref R FI (hr.mono (by decide)) bI rfl tk rfl mC (pv 1))) pss_nil)
      (pss_cons (ps_set (i := 2) scRest.nd rfl (.inl rfl) (pe_call C3.ok (hr.mono (by decide)) (by rfl) C3.ns.mg C3.ns.fn.kp C3.ns.bd .nil pass0 (pa_cons (pe_ix ix_seq (pv 0) pe_int (fun _ _ => rfl)) (pa_cons (pe_call C4.ok (hr.mono (by decide)) (by rfl) C4.ns.mg C4.ns.fn.kp C4.ns.bd .nil pass0 (pa_cons (pv 0) pa_nil)) (pa_cons (pv 1) pa_nil)))))
      (pss_one (ps_ret (pe_tup (pa_cons (pe_callTy (T := "tuple") call_tuple_of (by rfl) G.tuple (by decide +kernel) (pa_cons (pv 2) pa_nil)) (pa_cons (pe_op op_sub (pe_ix ix_seq (pv 0) pe_int (fun _ _ => rfl)) (pe_callB (cr_sum rfl) (by rfl) G.sum boot_sum (pa_cons (pe_lc (own := [("part", 3)]) (g := gName 3) (te := (tOp (rIx K) (tVar 3) (tC (.int 2)))) (by rfl) scRest.nd (pi_seq (pv 1)) (blkOk_by (own := [("part", 3)]) (N := nRest) (sc := defScope sRest) (by decide +kernel)) (fun _ _ _ _ _ => (pg_name (i := 3) scRest.nd rfl (.inl rfl))) (fun _ _ _ _ _ => pts_nil) (fun _ _ _ _ _ => (pe_ix ix_seq (pv 3) pe_int (fun _ _ => rfl)))) pa_nil))) pa_nil)))))))), ?_⟩
    have e1 : ∀ b, SpanH K H x b → Ev (tCall (spPure P w base ["value"] pSpan) [] E0 (tCons (tVar 0) tNil)) (start nRest [x, y]) H (.bl b) := fun b hb => ev_call (ea_cons (ev_var rfl) ea_nil) (spSpan_use M hb)
    have vE : ∀ {H1 : Hp} {z : V} {i : Nat}, Go Z [] H H1 → (start nRest [x, y])[i]? = some (some z) → (∀ d H', Go Z [] H H' → H' d = none → E (.ref C) (some d) (upd H' d (.xd [("at", z)]))) →
        ∀ D : Ends, tRef C (tVar i) (fun cls d _ H' => E cls d H') D (start nRest [x, y]) H1 := fun {H1 z i} g hi k D => ⟨z, hi, fun d hd => k d H1 g hd⟩
    rcases h with ⟨hs, kE⟩ | ⟨t, ht, tok, tb, h⟩
    · refine e1 false hs H (Ex.refl H) _ fun H1 x1 => ⟨false, rfl, ?_⟩
      refine ite2 (fun _ => ?_) (fun z => absurd rfl z)
      exact vE (Go.ex hz x1) rfl kE _
    · refine e1 true (SpanH.of ht tok) H (Ex.refl H) _ fun H1 x1 => ⟨true, rfl, ite2 (fun z => nomatch z) fun _ => ?_⟩
      have g1 : Go Z [] H H1 := Go.ex hz x1
      rcases h with ⟨hy, kE⟩ | ⟨e, xs, L, rfl, he, hw, ok, hl, h⟩
      · refine ⟨y, rfl, x, rfl, y, x, t, rfl, g1.ok, ht.ex x1, .inl ⟨hy.ex x1, fun H2 g2 => ⟨_, rfl, ite2 (fun _ => ?_) fun z => absurd rfl z⟩⟩⟩
        exact vE (g1.trans g2) rfl kE _
      · have he1 := SqE.ex he x1
        have hw1 := Paired.mapP hw fun _ _ h => h.ex x1
        refine ⟨.ref e, rfl, x, rfl, .ref e, x, t, rfl, g1.ok, ht.ex x1, .inr ⟨e, xs, L, rfl, he1, hw1, ok, by omega, fun b H2 g2 hb => ⟨_, rfl, ?_⟩⟩⟩
        have g12 := g1.trans g2
        rcases h with ⟨np, kE⟩ | ⟨pp, kQ⟩
        · have b0 : b = false := by
            cases b with
            | true => exact absurd (hb.mp rfl) np
            | false => rfl
          subst b0
          refine ite2 (fun _ => ?_) fun z => absurd rfl z
          exact vE g12 rfl kE _
        · have b1 : b = true := hb.mpr pp
          subst b1
          refine ite2 (fun z => nomatch z) fun _ => ?_
          have ht2 := ht.go g12
          have he2 := SqE.go he g12
          have hw2 := Paired.mapP hw fun _ _ h => h.go g12
          obtain ⟨a, rfl, q1⟩ := id ht2
          have bnd : ∀ s ∈ L, s.f + s.n ≤ 1000 := fun s hs => by
            have := pp.1 s hs
            unfold within at this
            simp only [Bool.and_eq_true, decide_eq_true_eq] at this
            omega
          have hxl : L.length = xs.length := Paired.length hw
          refine nx_of ?_
          have el1 : EvL (tCall (spRows K) [] E0 (tCons (tOp (rIx K) (tVar 0) (tC (.int 0))) (tCons (tCall (spBehind K) [] E0 (tCons (tVar 0) tNil)) (tCons (tVar 1) tNil)))) (start nRest [.ref a, .ref e]) H2 (natsV (rowsB (t.f + t.n) t.f L)) :=
            el_call (ea_cons (ev_op (ev_var rfl) ev_c (rv_ixE q1 (ix0 t))) (ea_cons (ev_call (ea_cons (ev_var rfl) ea_nil) (spBehind.use ht2)) (ea_cons (ev_var rfl) ea_nil)))
              (fun H1 e1 Q q E => ⟨t.f, t.f + t.n, e, xs, L, rfl, SqE.ex he2 e1, Paired.mapP hw2 fun _ _ h => h.ex e1, hl, by omega, by omega, bnd, fun p H' hp e2 h2 => q p H' hp e2 h2⟩)
          refine q_asgL el1 fun p H3 hp x3 h3 => ?_
          have x3' := x3
          refine ⟨.ref p, rfl, p, _, rfl, .inl ⟨SqL.of h3, fun r hr' => ?_⟩⟩
          have x4 := Ex.new hr' (o := .tup (natsV (rowsB (t.f + t.n) t.f L)))
          have x34 := x3.trans x4
          have q4 := SqE.ex q1 x34
          have el2 := el_lcA (K := K) (j := 3) (tl := tVar 1) (te := tOp (rIx K) (tVar 3) (tC (.int 2))) (σ := (start nRest [.ref a, .ref e]).set 2 (some (.ref p))) (H := upd H3 r (.tup (natsV (rowsB (t.f + t.n) t.f L)))) (xs := xs) (fun i => .int ((L.map (·.w)).getD i 0)) (Es.var rfl (SqE.ex he2 x34)) (by omega) (fun i z H' hz e' => by
            obtain ⟨s, hs, hp1⟩ := Paired.atR hw2 hz
            obtain ⟨b2, rfl, q2⟩ := (hp1.ex x34).ex e'
            have e7 : (L.map (·.w)).getD i 0 = s.w := by rw [List.getD_eq_getElem?_getD, List.getElem?_map, hs]; rfl
            show Ev _ _ _ (.int ((L.map (·.w)).getD i 0))
            rw [e7]
            exact ev_op (ev_var rfl) ev_c (rv_ixE q2 (ix2 s)))
          have e8 : (List.range xs.length).map (fun i => V.int ((L.map (·.w)).getD i 0)) = (L.map (·.w)).map V.int := by
            rw [← hxl, ← List.length_map (f := fun s : S5 => s.w) (as := L)]
            exact range_int _
          rw [e8] at el2
          have ew : Ev (tOp (rI0 fun i j => V.int (i - j)) (tOp (rIx K) (tVar 0) (tC (.int 2))) (tCB (rSum K) (tCons (tLc (iSeq K (tVar 1)) (gName 3) tYes (tOp (rIx K) (tVar 3) (tC (.int 2))) [3]) tNil))) ((start nRest [.ref a, .ref e]).set 2 (some (.ref p))) (upd H3 r (.tup (natsV (rowsB (t.f + t.n) t.f L)))) (.int (t.w - (L.map (·.w)).sum)) :=
            ev_op (ev_op (ev_var rfl) ev_c (rv_ixE q4 (ix2 t))) (ev_cbL el2 fun p2 H5 h5 H6 e6 Q q => ⟨p2, _, rfl, SqL.of (e6 _ _ h5), q H6 (Ex.refl _)⟩) rv_I0
          refine ew _ (Ex.refl _) _ fun H6 x6 => ⟨by show 2 ≤ sizeLine; decide, fun p2 hp2 => ?_⟩
          have x6n := x6.trans (Ex.new hp2 (o := .tup [.ref r, .int (t.w - (L.map (·.w)).sum)]))
          have g6 : Go Z [] H (upd H6 p2 (.tup [.ref r, .int (t.w - (L.map (·.w)).sum)])) := g12.then (x34.trans x6n)
          refine kQ p2 r _ (g12.fr p2 (ex_fresh (x34.trans x6) hp2)) (g12.fr r (ex_fresh x3 hr')) g6 (x6n _ _ upd_same) upd_same
end
end K08
set_option Elab.async false
set_option linter.all false
set_option maxRecDepth 100000
set_option maxHeartbeats 4000000
namespace K08
open PySem PySem.Spec PyProof.Rows L2 GxR Pu Evl
theorem scBox : FnScope ["_law_script", "_law_k", "_law_cell", "_law_great"] ["_law_script", "_law_k"] (defScope sBox) := ⟨rfl, rfl, rfl, by decide +kernel, rfl, by decide +kernel, by decide +kernel⟩
theorem scTake : FnScope ["_law_box_here", "_law_many", "_law_digit", "_law_raw"] ["_law_box_here", "_law_many"] (defScope sTake) := ⟨rfl, rfl, rfl, by decide +kernel, rfl, by decide +kernel, by decide +kernel⟩
theorem scPick : FnScope ["_law_box_here", "_law_some_here"] ["_law_box_here", "_law_some_here"] (defScope sPick) := ⟨rfl, rfl, rfl, by decide +kernel, rfl, by decide +kernel, by decide +kernel⟩
section
variable {P : Program} {w : World} {K : PySem.W.Frag} {mg : Str → Option Value} {base : Heap}
variable {fBox fTake fPick : Addr} {dBox dTake dPick : FuncData}
theorem atI_map {ns : List Int} {j : Nat} (h : j < ns.length) : atI (ns.map V.int) (j : Int) = some (V.int (ns.getD j 0)) := by
  refine atI_nat ?_
  rw [List.getElem?_map, List.getElem?_eq_getElem h, List.getD_eq_getElem?_getD, List.getElem?_eq_getElem h]
  rfl
theorem ok_box {ns : List Int} {f : Addr} {fd : FuncData} (G : Mg mg) (F : Fun K "_law_box" "_law_box" sBox f fd) : FnOk P w K mg base CX0 1 f fd ["_law_script", "_law_k"] (spBox K ns) := by
  refine F.ok scBox (fun vs H Q E h => ?_) (fun cdv A outer s H vs Q E hr h => ?_)
  · obtain ⟨a, k, rfl, _⟩ := h
    rfl
  · obtain ⟨a, k, rfl, hs, hn, hk, kk⟩ := h
    refine ⟨_, pss_cons (ps_set (i := 2) scBox.nd rfl (.inl rfl) (pe_op op_add (pe_op op_mul pe_int (pv 1)) pe_int))
      (pss_cons (ps_if (pt_cmpR op_lt (pv 1) (pe_callB call_len (by rfl) G.len boot_len (pa_cons (pv 0) pa_nil)) (nomark _))
        (pss_one (ps_set (i := 2) scBox.nd rfl (.inl rfl) (pe_callB call_abs (by rfl) G.abs boot_abs (pa_cons (pe_callTy (T := "int") call_int1 (by rfl) G.int (by decide +kernel) (pa_cons (pe_ix ix_list (pv 0) (pv 1) (fun _ _ => rfl)) pa_nil)) pa_nil))))
        (pss_one (ps_if (pt_cmpR op_gt (pe_callB call_len (by rfl) G.len boot_len (pa_cons (pv 0) pa_nil)) pe_int (nomark _))
          (pss_one (ps_set (i := 2) scBox.nd rfl (.inl rfl) (pe_op op_add (pv 2) (pe_op op_mul (pe_op op_mod (pe_callTy (T := "int") call_int1 (by rfl) G.int (by decide +kernel) (pa_cons
            (pe_callB call_abs (by rfl) G.abs boot_abs (pa_cons (pe_callTy (T := "int") call_int1 (by rfl) G.int (by decide +kernel) (pa_cons (pe_ix ix_list (pv 0)
              (pe_op op_mod (pe_callTy (T := "int") call_int1 (by rfl) G.int (by decide +kernel) (pa_cons (pv 1) pa_nil)) (pe_callB call_len (by rfl) G.len boot_len (pa_cons (pv 0) pa_nil))) (fun _ _ => rfl)) pa_nil)) pa_nil)) pa_nil)) pe_int) pe_int))))
          pss_nil)))
      (pss_cons (ps_set (i := 3) scBox.nd rfl (.inl rfl) (pe_ifExp (pt_cmpR op_ge (pv 2) (pe_op op_pow pe_int pe_int) (nomark _)) (pv 2) pe_int))
      (pss_one (ps_ret (pe_lst (pa_cons (pv 3) (pa_cons (pe_op op_add (pe_op op_mod (pe_callTy (T := "int") call_int1 (by rfl) G.int (by decide +kernel) (pa_cons
        (pe_op op_add (pe_op op_mul (pe_op op_mod (pe_callTy (T := "int") call_int1 (by rfl) G.int (by decide +kernel) (pa_cons (pv 2) pa_nil)) pe_int) pe_int) (pe_op op_mul pe_int (pv 1))) pa_nil)) pe_int) pe_int) pa_nil))))))), ?_⟩
    have c64 : ∀ j : Int, 0 ≤ j → j < 2 ^ 64 → ∀ i : Int, CMul i j := fun j a b i => .inr ⟨by omega, b⟩
    have d64 : ∀ j : Int, 0 ≤ j → j < 2 ^ 64 → ∀ i : Int, CMul j i := fun j a b i => .inl ⟨by omega, b⟩
    have ml : (ns.map V.int).length = ns.length := by simp
    refine q_asg (v := .int (7549 * (k : Int) + 1153)) (ev_op (ev_op ev_c (ev_var rfl) (rv_I (d64 _ (by decide) (by decide) _))) ev_c rv_I0) fun H1 e1 => ?_
    have hs1 := ex_l e1 hs
    refine q_ifSet (i := 2) (c0 := 7549 * (k : Int) + 1153) (fun c => 0 ≤ c) (et_test (ev_op (ev_var rfl) (ev_lenL (ev_var rfl) hs1) rv_I0)) (fun z => ?_) (fun _ => et_test (ev_op (ev_lenL (ev_var rfl) hs1) ev_c rv_I0)) (fun z y => ?_) ⟨by omega, rfl⟩ fun c H2 hc e2 => ?_
    · have hk2 : k < ns.length := by have := of_decide_eq_true z; omega
      refine ⟨_, ?_, ev_cb (ea_cons (ev_int1 (ev_op (ev_var rfl) (ev_var rfl) (rv_ixL hs1 (atI_map hk2)))) ea_nil) rc_abs⟩
      split <;> omega
    · have hn0 : 0 < ns.length := by have := of_decide_eq_true y; omega
      obtain ⟨j, hj, hjn⟩ := mod_nat (k : Int) (m := ns.length) hn0
      have jx : Ev (tOp (rI (fun _ j => 0 < j) fun i j => .int (i % j)) (tCB (fun xs H Q => (∃ i, xs = [V.int i] ∧ Q (.int i) H) ∨ ∃ k, xs = [.bl k] ∧ Q (.int (if k then 1 else 0)) H) (tCons (tVar 1) tNil)) (tCB (fun ys H Q => ∃ x n, ys = [x] ∧ LenV K x H n ∧ Q (.int n) H) (tCons (tVar 0) tNil))) (List.set (start ["_law_script", "_law_k", "_law_cell", "_law_great"] [V.ref a, V.int k]) 2 (some (V.int (7549 * (k : Int) + 1153)))) H1 (.int (j : Int)) :=
        ev_is (ev_op (ev_int1 (ev_var rfl)) (ev_lenL (ev_var rfl) hs1) (rv_I (by omega))) (by rw [ml, hj])
      obtain ⟨x, hx⟩ : ∃ x : Int, (if ns.getD j 0 < 0 then -ns.getD j 0 else ns.getD j 0) = x := ⟨_, rfl⟩
      have x0 := Int.emod_nonneg x (show (2147483587 : Int) ≠ 0 by decide)
      refine ⟨7549 * (k : Int) + 1153 + x % 2147483587 * 50461, by omega, ?_⟩
      refine ev_op (ev_var rfl) (ev_op (ev_op (ev_int1 (ev_is (ev_cb (ea_cons (ev_int1 (ev_op (ev_var rfl) jx (rv_ixL hs1 (atI_map hjn)))) ea_nil) rc_abs) (by rw [hx]))) ev_c (rv_I (by decide))) ev_c (rv_I (c64 _ (by decide) (by decide) _))) rv_I0
    · have pw : CPow 10 18 := ⟨by decide, by decide, by decide⟩
      obtain ⟨g, hg, hg0⟩ : ∃ g : Int, (if 10 ^ 18 ≤ c then c else 0) = g ∧ 0 ≤ g := ⟨_, rfl, by split <;> omega⟩
      refine q_asg (v := .int g) (ev_if (et_test (ev_op (ev_var rfl) (ev_op ev_c ev_c (rv_I pw)) rv_I0)) (fun z => ev_is (ev_var rfl) ?_) (fun z => ev_is ev_c ?_)) fun H3 e3 => ?_
      · rw [← hg, if_pos (show (10 : Int) ^ 18 ≤ c from of_decide_eq_true z)]
      · rw [← hg, if_neg (show ¬ (10 : Int) ^ 18 ≤ c from of_decide_eq_false z)]
      · have y0 := Int.emod_nonneg (c % 2147483587 * 69761 + 1153 * (k : Int)) (show (2147483587 : Int) ≠ 0 by decide)
        refine s_retL (xs := [.int g, .int ((c % 2147483587 * 69761 + 1153 * (k : Int)) % 2147483587 + 1)]) (el_lst (ea_cons (ev_var rfl) (ea_cons (ev_op (ev_op (ev_int1 (ev_op (ev_op (ev_op (ev_int1 (ev_var rfl)) ev_c (rv_I (by decide))) ev_c (rv_I (c64 _ (by decide) (by decide) _)))
          (ev_op ev_c (ev_var rfl) (rv_I (d64 _ (by decide) (by decide) _))) rv_I0)) ev_c (rv_I (by decide))) ev_c rv_I0) ea_nil)) (by show 2 ≤ 100000; decide)) fun p H4 hp e4 h4 => ?_
        exact kk p H4 (fresh_back ((e1.trans e2).trans e3) hp) (((e1.trans e2).trans e3).trans e4) ⟨g, _, h4, hg0, by omega⟩
theorem ok_take {f : Addr} {fd : FuncData} (G : Mg mg) (F : Fun K "_law_take" "_law_take" sTake f fd) : FnOk P w K mg base CX0 1 f fd ["_law_box_here", "_law_many"] spTake := by
  refine F.ok scTake (fun vs H Q E h => ?_) (fun cdv A outer s H vs Q E hr h => ?_)
  · obtain ⟨p, m, rfl, _⟩ := h
    rfl
  · obtain ⟨p, m, rfl, h1, h9, hb, kk⟩ := h
    refine ⟨_, pss_cons (ps_if (pt_cmpR op_gt (pe_ix ix_list (pv 0) pe_int (fun _ _ => rfl)) pe_int (nomark _))
        (pss_cons (ps_set (i := 2) scTake.nd rfl (.inl rfl) (pe_op op_mod (pe_callTy (T := "int") call_int1 (by rfl) G.int (by decide +kernel) (pa_cons (pe_ix ix_list (pv 0) pe_int (fun _ _ => rfl)) pa_nil)) (pv 1)))
        (pss_cons (ps_asg (pe_op op_fdivW (pe_ix ix_list (pv 0) pe_int (fun _ _ => rfl)) (pv 1)) (pg_sub (pv 0) pe_int set_list (fun _ => rfl)))
        (pss_one (ps_ret (pv 2)))))
        pss_nil)
      (pss_cons (ps_set (i := 3) scTake.nd rfl (.inl rfl) (pe_op op_mod (pe_callTy (T := "int") call_int1 (by rfl) G.int (by decide +kernel) (pa_cons (pe_op op_add (pe_op op_mul (pe_ix ix_list (pv 0) pe_int (fun _ _ => rfl)) pe_int) pe_int) pa_nil)) pe_int))
      (pss_cons (ps_asg (pe_op op_add (pe_op op_mod (pe_callTy (T := "int") call_int1 (by rfl) G.int (by decide +kernel) (pa_cons (pe_op op_add (pe_op op_mul (pv 3) pe_int) pe_int) pa_nil)) pe_int) pe_int) (pg_sub (pv 0) pe_int set_list (fun _ => rfl)))
      (pss_one (ps_ret (pe_op op_mod (pe_callTy (T := "int") call_int1 (by rfl) G.int (by decide +kernel) (pa_cons (pe_op op_fdiv (pe_op op_add (pe_op op_mul (pv 3) pe_int) (pe_ix ix_list (pv 0) pe_int (fun _ _ => rfl))) pe_int) pa_nil)) (pv 1)))))), ?_⟩
    obtain ⟨g, s', hH, hg, hs⟩ := hb
    have m0 : (0 : Int) < (m : Int) := by omega
    refine q_when (b := decide (0 < g)) (et_test (ev_op (ev_op (ev_var rfl) ev_c (rv_ixL (SqL.of hH) rfl)) ev_c rv_I0)) (fun hgt H1 e1 => ?_) (fun _ H1 e1 => ?_)
    · obtain ⟨d, hd, hdm⟩ := mod_nat g h1
      refine q_asg (v := .int (d : Int)) (ev_is (ev_op (ev_int1 (ev_op (ev_var rfl) ev_c (rv_ixL (SqL.of (e1 _ _ hH)) rfl))) (ev_var rfl) (rv_I m0)) (by rw [hd])) fun H2 e2 => ?_
      have h2 := (e1.trans e2) _ _ hH
      refine q_setL (j := 0) (v := .int (g / (m : Int))) h2 (ev_op (ev_op (ev_var rfl) ev_c (rv_ixL (SqL.of h2) rfl)) (ev_var rfl) (rv_I ⟨m0, ?_⟩)) (ev_var rfl) ev_c (by simp) fun H3 e3 => ?_
      · exact lt_log h9
      · exact s_ret (ev_var rfl) fun H4 e4 => kk d H4 hdm (ExB.of ((e1.trans e2).trans e3) e4 (Int.ediv_nonneg hg (by omega)) hs)
    · have h1' := e1 _ _ hH
      have c64 : ∀ j : Int, 0 ≤ j → j < 2 ^ 64 → ∀ i : Int, CMul i j := fun j a b i => .inr ⟨by omega, b⟩
      obtain ⟨r, hr⟩ : ∃ r : Int, (s' * 40692 + 79) % 2147483399 = r := ⟨_, rfl⟩
      refine q_asg (v := .int r) (ev_is (ev_op (ev_int1 (ev_op (ev_op (ev_op (ev_var rfl) ev_c (rv_ixL (SqL.of h1') rfl)) ev_c (rv_I (c64 _ (by decide) (by decide) _))) ev_c rv_I0)) ev_c (rv_I (by decide))) (by rw [hr])) fun H2 e2 => ?_
      have h2 := e2 _ _ h1'
      obtain ⟨t, ht⟩ : ∃ t : Int, (r * 39373 + 31) % 2147483587 + 1 = t := ⟨_, rfl⟩
      have t0 : 0 ≤ t := by
        have := Int.emod_nonneg (r * 39373 + 31) (show (2147483587 : Int) ≠ 0 by decide)
        omega
      refine q_setL (j := 1) (v := .int t) h2 (ev_is (ev_op (ev_op (ev_int1 (ev_op (ev_op (ev_var rfl) ev_c (rv_I (c64 _ (by decide) (by decide) _))) ev_c rv_I0)) ev_c (rv_I (by decide))) ev_c rv_I0) (by rw [ht])) (ev_var rfl) ev_c (by simp) fun H3 e3 => ?_
      have h4 : (upd H3 p (.lst ([V.int g, .int s'].set 1 (.int t)))) p = some (.lst [.int g, .int t]) := upd_same
      obtain ⟨d, hd, hdm⟩ := mod_nat ((r * 2147483629 + t) / 8167) h1
      refine s_ret (v := .int (d : Int)) (ev_is (ev_op (ev_int1 (ev_op (ev_op (ev_op (ev_var rfl) ev_c (rv_I (c64 _ (by decide) (by decide) _))) (ev_op (ev_var rfl) ev_c (rv_ixL (SqL.of h4) rfl)) rv_I0) ev_c (rv_I ?_))) (ev_var rfl) (rv_I m0)) (by rw [hd])) fun H4 e4 => kk d H4 hdm (ExB.of ((e1.trans e2).trans e3) e4 hg t0)
      exact ⟨by decide, by decide⟩
theorem ok_pick {f : Addr} {fd : FuncData} (G : Mg mg) (F : Fun K "_law_pick" "_law_pick" sPick f fd) (F1 : Fns K mg "_law_take" ["_law_box_here", "_law_many"] sTake fTake dTake) : FnOk P w K mg base CX0 2 f fd ["_law_box_here", "_law_some_here"] spPick := by
  have G1 : FnOk P w K mg base CX0 1 fTake dTake ["_law_box_here", "_law_many"] spTake := ok_take G F1.fn
  refine F.ok scPick (fun vs H Q E h => ?_) (fun cdv A outer s H vs Q E hr h => ?_)
  · obtain ⟨p, q, ys, rfl, _⟩ := h
    rfl
  · obtain ⟨p, q, ys, rfl, hb, hq, hne, hl, hz, kk⟩ := h
    refine ⟨_, pss_one (ps_ret (pe_ix ix_list (pv 1) (pe_call G1 hr (by rfl) F1.mg F1.fn.kp F1.bd .nil pass0 (pa_cons (pv 0) (pa_cons (pe_callB call_len (by rfl) G.len boot_len (pa_cons (pv 1) pa_nil)) pa_nil))) (fun _ _ => rfl))), ?_⟩
    refine ⟨.ref q, rfl, .ref p, rfl, .ref q, rfl, .ref q, ys.length, rfl, .inl ⟨ys, SqL.of hq, rfl⟩, p, ys.length, rfl, hl, by omega, hb, fun d H' hd e => ?_⟩
    refine ⟨q, ys, d, ys[d], rfl, rfl, SqL.of (e.2 _ _ hne hq), atI_nat (List.getElem?_eq_getElem hd), kk _ H' (List.getElem_mem hd) e⟩
end
end K08
set_option Elab.async false
set_option linter.all false
set_option maxRecDepth 100000
set_option maxHeartbeats 4000000
namespace Pu
open PySem PySem.Spec PyProof.Rows L2 GxR Evl
theorem rgN_mem {a b c : Nat} : c ∈ rgN a b ↔ a ≤ c ∧ c < b := by
  unfold rgN
  rw [List.mem_map]
  constructor
  · rintro ⟨i, hi, rfl⟩
    have := List.mem_range.mp hi
    omega
  · rintro ⟨h1, h2⟩
    exact ⟨c - a, List.mem_range.mpr (by omega), by omega⟩
theorem inV_nat {c : Nat} {cs : List Nat} : inV (.int (c : Int)) (natsV cs) = decide (c ∈ cs) := by
  unfold inV natsV
  rw [List.any_map, Bool.eq_iff_iff, List.any_eq_true, decide_eq_true_eq]
  constructor
  · rintro ⟨d, hd, h⟩
    have h2 : eqV (.int (d : Int)) (.int (c : Int)) = true := h
    have h3 : (d : Int) = c := by simpa [eqV] using h2
    have : c = d := by omega
    exact this ▸ hd
  · intro h
    refine ⟨c, h, ?_⟩
    show eqV (.int (c : Int)) (.int (c : Int)) = true
    simp [eqV]
theorem natsV_flat (cs : List Nat) : (natsV cs).all flatV = true := by
  unfold natsV
  rw [List.all_map, List.all_eq_true]
  intro x _
  rfl
theorem dp_ints {K : PySem.W.Frag} {H : Hp} : ∀ cs : List Nat, DpAll K H (natsV cs) (cs.map fun (c : Nat) => PyData.int (c : Int))
  | [] => .nil
  | c :: cs => .cons (.int _) (dp_ints cs)
theorem ints_lay : ∀ cs : List Nat, PyData.canLayAll0 (cs.map fun (c : Nat) => PyData.int (c : Int)) = true
  | [] => rfl
  | c :: cs => by
    show (PyData.canLay0 (.int (c : Int)) && PyData.canLayAll0 _) = true
    rw [ints_lay cs]
    rfl
theorem ints_depth : ∀ cs : List Nat, PyData.depthAll (cs.map fun (c : Nat) => PyData.int (c : Int)) ≤ 0
  | [] => Nat.le_refl _
  | c :: cs => by
    show max (PyData.depth (.int (c : Int))) (PyData.depthAll _) ≤ 0
    exact Nat.max_le.mpr ⟨Nat.le_refl 0, ints_depth cs⟩
theorem ints_shaped (cs : List Nat) : SeqAt.shaped (.list (cs.map fun (c : Nat) => PyData.int (c : Int))) = true := by
  have h1 : PyData.canLay0 (.list (cs.map fun (c : Nat) => PyData.int (c : Int))) = true := ints_lay cs
  have h2 : PyData.depth (.list (cs.map fun (c : Nat) => PyData.int (c : Int))) ≤ 64 := by
    show PyData.depthAll (cs.map fun (c : Nat) => PyData.int (c : Int)) + 1 ≤ 64
    have := ints_depth cs
    omega
  unfold SeqAt.shaped
  rw [h1, decide_eq_true h2]
  rfl
/-- numbers == [] -/
theorem rv_eqNil {K : PySem.W.Frag} {H : Hp} {p q : Addr} {cs : List Nat} (h : H p = some (.lst (natsV cs))) (h0 : H q = some (.lst [])) : RV (rEqD K) (.ref p) (.ref q) H (.bl cs.isEmpty) := fun H1 e Q k => by
  refine ⟨.list (cs.map fun (c : Nat) => PyData.int (c : Int)), .list [], .lst (SqL.of (e _ _ h)) (dp_ints cs), .lst (SqL.of (e _ _ h0)) .nil, ints_shaped cs, ints_shaped [], ?_⟩
  have e0 : PyData.eqv (.list (cs.map fun (c : Nat) => PyData.int (c : Int))) (.list []) = cs.isEmpty := by cases cs <;> rfl
  rw [e0]
  exact k H1 (Ex.refl _)
end Pu
namespace K08
open PySem PySem.Spec PyProof.Rows L2 GxR Pu Evl
theorem Ok_pos {s : S5} (h : s.Ok) : 0 < s.n := by
  have h1 := h.2
  unfold spanB at h1
  have h2 := (Bool.and_eq_true_iff.mp (Bool.and_eq_true_iff.mp (Bool.and_eq_true_iff.mp h1).1).2).1
  obtain ⟨n, e, hn⟩ := sizeB_int h2
  cases e
  omega
theorem scLRows : FnScope ["_law_span"] ["_law_span"] (defScope sLRows) := ⟨rfl, rfl, rfl, by decide +kernel, rfl, by decide +kernel, by decide +kernel⟩
abbrev nStand : List Str := ["_law_one", "_law_other", "_law_mine", "_law_others", "_law_row"]
theorem scLStand : FnScope nStand ["_law_one", "_law_other"] (defScope sLStand) := ⟨rfl, rfl, rfl, by decide +kernel, rfl, by decide +kernel, by decide +kernel⟩
def spLRows (K : PySem.W.Frag) : Sp := fun vs H Q _ => ∃ (s : S5) (v : V), vs = [v] ∧ SpE K H s v ∧ s.f + s.n ≤ 1000 ∧ ∀ p H', H p = none → Ex H H' → H' p = some (.lst (natsV (rgN s.f (s.f + s.n)))) → Q (.ref p) H'
def spStand (K : PySem.W.Frag) : Sp := fun vs H Q _ => ∃ (s o : S5) (v u : V), vs = [v, u] ∧ SpE K H s v ∧ SpE K H o u ∧ s.Ok ∧ o.Ok ∧ s.f + s.n ≤ 1000 ∧ o.f + o.n ≤ 1000 ∧ ∀ p H', H p = none → Ex H H' → H' p = some (.tup [.bl (within s o), .bl (apart s o)]) → Q (.ref p) H'
section
variable {P : Program} {w : World} {K : PySem.W.Frag} {mg : Str → Option Value} {base : Heap} {f f1 : Addr} {fd d1 : FuncData}
theorem ok_lrows (G : Mg mg) (F : Fun K "_law_rows" "_law_rows" sLRows f fd) : FnOk P w K mg base CX0 1 f fd ["_law_span"] (spLRows K) := by
  refine F.ok scLRows (fun vs H Q E h => ?_) (fun cdv A outer s H vs Q E hr h => ?_)
  · obtain ⟨s, v, rfl, _⟩ := h
    rfl
  · obtain ⟨s, v, rfl, ⟨b, rfl, q⟩, hb, kk⟩ := h
    refine ⟨_, (pss_one (ps_ret (pe_listRg rfl (by rfl) G.list (prg_2 (by rfl) G.range (pe_ix ix_seq (pv 0) pe_int (fun _ _ => rfl)) (pe_op op_add (pe_ix ix_seq (pv 0) pe_int (fun _ _ => rfl)) (pe_ix ix_seq (pv 0) pe_int (fun _ _ => rfl))))))), ?_⟩
    exact s_retL (el_rg (ev_op (ev_var rfl) ev_c (rv_ixE q (ix0 s))) (ev_is (ev_op (ev_op (ev_var rfl) ev_c (rv_ixE q (ix0 s))) (ev_op (ev_var rfl) ev_c (rv_ixE q (ix1 s))) rv_I0) (by show V.int ((s.f : Int) + s.n) = V.int ((s.f + s.n : Nat) : Int); rfl)) (by omega) (by omega)) fun p H1 hp e h => kk p H1 hp e h
theorem ok_stand (G : Mg mg) (F : Fun K "_law_stand" "_law_stand" sLStand f fd) (C : Cal P w K mg base "_law_rows" ["_law_span"] sLRows 1 (spLRows K) f1 d1) : FnOk P w K mg base CX0 2 f fd ["_law_one", "_law_other"] (spStand K) := by
  refine F.ok scLStand (fun vs H Q E h => ?_) (fun cdv A outer s0 H vs Q E hr h => ?_)
  · obtain ⟨s, o, v, u, rfl, _⟩ := h
    rfl
  · obtain ⟨s, o, v, u, rfl, hs, ho, oks, oko, hb1, hb2, kk⟩ := h
    have hu : (cxOf CX0 P w K mg base nStand "_law_stand" (defScope sLStand) f cdv A outer s0 H E).nox.A.units + 64 < cLine := hr.units
    refine ⟨_, (pss_cons (ps_asg (pe_tup (pa_cons (pe_call C.ok (hr.mono (by decide)) (by rfl) C.ns.mg C.ns.fn.kp C.ns.bd .nil pass0 (pa_cons (pv 0) pa_nil)) (pa_cons (pe_call C.ok (hr.mono (by decide)) (by rfl) C.ns.mg C.ns.fn.kp C.ns.bd .nil pass0 (pa_cons (pv 1) pa_nil)) pa_nil))) (pg_seq rfl (pgs_cons (pg_name (i := 2) scLStand.nd rfl (.inl rfl)) (pgs_cons (pg_name (i := 3) scLStand.nd rfl (.inr rfl)) pgs_nil))))
      (pss_one (ps_ret (pe_tup (pa_cons (pe_cmpR (op_eqD hu) (pe_lc (own := [("_law_row", 4)]) (g := gName 4) (te := (tVar 4)) (tt := tTest (tOp (rIn K true) (tVar 4) (tVar 3))) (by rfl) scLStand.nd (pi_seq (pv 2)) (blkOk_by (own := [("_law_row", 4)]) (N := nStand) (sc := defScope sLStand) (by decide +kernel)) (fun _ _ _ _ _ => (pg_name (i := 4) scLStand.nd rfl (.inl rfl))) (fun _ _ _ _ _ => pts_one (pt_cmpR op_notIn_seq (pv 4) (pv 3) rfl)) (fun _ _ _ _ _ => (pv 4))) (pe_lst pa_nil) (nomark _)) (pa_cons (pe_cmpR (op_eqD hu) (pe_lc (own := [("_law_row", 4)]) (g := gName 4) (te := (tVar 4)) (tt := tTest (tOp (rIn K false) (tVar 4) (tVar 3))) (by rfl) scLStand.nd (pi_seq (pv 2)) (blkOk_by (own := [("_law_row", 4)]) (N := nStand) (sc := defScope sLStand) (by decide +kernel)) (fun _ _ _ _ _ => (pg_name (i := 4) scLStand.nd rfl (.inl rfl))) (fun _ _ _ _ _ => pts_one (pt_cmpR op_in_seq (pv 4) (pv 3) rfl)) (fun _ _ _ _ _ => (pv 4))) (pe_lst pa_nil) (nomark _)) pa_nil)))))), ?_⟩
    have h1 : EvL (tCall (spLRows K) [] E0 (tCons (tVar 0) tNil)) (start nStand [v, u]) H (natsV (rgN s.f (s.f + s.n))) := el_call (ea_cons (ev_var rfl) ea_nil) fun H1 e1 Q q E => ⟨s, v, rfl, hs.ex e1, hb1, fun p H' hp e2 h2 => q p H' hp e2 h2⟩
    refine h1 H (Ex.refl _) _ fun p H1 hp x1 hp1 => ?_
    have h2 : EvL (tCall (spLRows K) [] E0 (tCons (tVar 1) tNil)) (start nStand [v, u]) H1 (natsV (rgN o.f (o.f + o.n))) := el_call (ea_cons (ev_var rfl) ea_nil) fun H1 e1 Q q E => ⟨o, u, rfl, (ho.ex x1).ex e1, hb2, fun p H' hp e2 h2 => q p H' hp e2 h2⟩
    refine h2 H1 (Ex.refl _) _ fun q H2 hq x2 hq2 => ⟨by show 2 ≤ sizeLine; decide, fun r hr0 => ?_⟩
    have x3 := Ex.new hr0 (o := .tup [V.ref p, .ref q])
    refine ⟨r, _, rfl, .inl (SqT.of upd_same), rfl, _, _, rfl, _, _, rfl, rfl, ?_⟩
    have pm : (upd H2 r (.tup [V.ref p, .ref q])) p = some (.lst (natsV (rgN s.f (s.f + s.n)))) := x3 _ _ (x2 _ _ hp1)
    have qm : (upd H2 r (.tup [V.ref p, .ref q])) q = some (.lst (natsV (rgN o.f (o.f + o.n)))) := x3 _ _ hq2
    have nl : (natsV (rgN s.f (s.f + s.n))).length = s.n := by unfold natsV; rw [List.length_map, rgN_len]; omega
    have get : ∀ (i : Nat) (x : V), (natsV (rgN s.f (s.f + s.n)))[i]? = some x → x = .int ((s.f + i : Nat) : Int) ∧ i < s.n := fun i x hx => by
      have hi := (List.getElem?_eq_some_iff.mp hx).1
      rw [nl] at hi
      refine ⟨?_, hi⟩
      unfold natsV rgN at hx
      rw [List.getElem?_map, List.getElem?_map, List.getElem?_range (by omega)] at hx
      exact (Option.some.inj hx).symm
    have mk : ∀ (neg : Bool) (H' : Hp), Ex (upd H2 r (.tup [V.ref p, .ref q])) H' → EvL (tLc (iSeq K (tVar 2)) (gName 4) (tTest (tOp (rIn K neg) (tVar 4) (tVar 3))) (tVar 4) [4]) [some v, some u, some (.ref p), some (.ref q), none] H' (natsV (((List.range s.n).filter fun i => (if neg then !decide ((s.f + i) ∈ rgN o.f (o.f + o.n)) else decide ((s.f + i) ∈ rgN o.f (o.f + o.n)))).map fun i => s.f + i)) := fun neg H' e' => by
      have := el_lcS (K := K) (j := 4) (tl := tVar 2) (tt := tTest (tOp (rIn K neg) (tVar 4) (tVar 3))) (te := tVar 4) (σ := [some v, some u, some (.ref p), some (.ref q), none]) (H := H') (xs := natsV (rgN s.f (s.f + s.n)))
        (fun i => if neg then !decide ((s.f + i) ∈ rgN o.f (o.f + o.n)) else decide ((s.f + i) ∈ rgN o.f (o.f + o.n))) (fun i => .int ((s.f + i : Nat) : Int)) (Es.var rfl (.inr (SqL.of (e' _ _ pm)))) (by rw [nl]; omega)
        (fun i x H'' hx e2 => by
          obtain ⟨rfl, hi⟩ := get i x hx
          have := rv_inL (neg := neg) (x := .int ((s.f + i : Nat) : Int)) (SqL.of ((e'.trans e2) _ _ qm) : SqL K H'' q _) rfl (natsV_flat _)
          rw [inV_nat] at this
          exact et_test (ev_op (ev_var rfl) (ev_var rfl) this))
        (fun i x H'' hx e2 _ => by
          obtain ⟨rfl, hi⟩ := get i x hx
          exact ev_var rfl)
      rw [nl] at this
      unfold given at this
      unfold natsV
      rw [List.map_map]
      exact this
    have posS := Ok_pos oks
    have posO := Ok_pos oko
    have w1 : ((((List.range s.n).filter fun i => (if true then !decide ((s.f + i) ∈ rgN o.f (o.f + o.n)) else decide ((s.f + i) ∈ rgN o.f (o.f + o.n)))).map fun i => s.f + i)).isEmpty = within s o := by
      rw [Bool.eq_iff_iff, List.isEmpty_iff, List.map_eq_nil_iff, List.filter_eq_nil_iff]
      unfold within
      simp only [if_true, List.mem_range, Bool.not_eq_true', decide_eq_false_iff_not, rgN_mem, Bool.and_eq_true, decide_eq_true_eq]
      constructor
      · intro h
        have a1 := h 0 posS
        have a2 := h (s.n - 1) (by omega)
        omega
      · intro h i hi
        omega
    have w2 : ((((List.range s.n).filter fun i => (if false then !decide ((s.f + i) ∈ rgN o.f (o.f + o.n)) else decide ((s.f + i) ∈ rgN o.f (o.f + o.n)))).map fun i => s.f + i)).isEmpty = apart s o := by
      rw [Bool.eq_iff_iff, List.isEmpty_iff, List.map_eq_nil_iff, List.filter_eq_nil_iff]
      unfold apart
      simp only [Bool.false_eq_true, if_false, List.mem_range, decide_eq_true_eq, rgN_mem, Bool.or_eq_true]
      constructor
      · intro h
        by_cases z1 : s.f + s.n ≤ o.f
        · exact .inl z1
        · by_cases z2 : o.f + o.n ≤ s.f
          · exact .inr z2
          · exfalso
            by_cases z3 : s.f ≤ o.f
            · exact h (o.f - s.f) (by omega) (by omega)
            · exact h 0 posS (by omega)
      · intro h i hi
        omega
    have v1 : ∀ H', Ex (upd H2 r (.tup [V.ref p, .ref q])) H' → Ev (tOp (rEqD K) (tLc (iSeq K (tVar 2)) (gName 4) (tTest (tOp (rIn K true) (tVar 4) (tVar 3))) (tVar 4) [4]) (tLst tNil)) [some v, some u, some (.ref p), some (.ref q), none] H' (.bl (within s o)) := fun H' e' => by
      have := ev_opLL (mk true H' e') (el_lst (σ := [some v, some u, some (.ref p), some (.ref q), none]) (H := H') ea_nil (by decide)) fun a b H9 h9 h8 _ => rv_eqNil (K := K) h9 h8
      rw [w1] at this
      exact this
    have v2 : ∀ H', Ex (upd H2 r (.tup [V.ref p, .ref q])) H' → Ev (tOp (rEqD K) (tLc (iSeq K (tVar 2)) (gName 4) (tTest (tOp (rIn K false) (tVar 4) (tVar 3))) (tVar 4) [4]) (tLst tNil)) [some v, some u, some (.ref p), some (.ref q), none] H' (.bl (apart s o)) := fun H' e' => by
      have := ev_opLL (mk false H' e') (el_lst (σ := [some v, some u, some (.ref p), some (.ref q), none]) (H := H') ea_nil (by decide)) fun a b H9 h9 h8 _ => rv_eqNil (K := K) h9 h8
      rw [w2] at this
      exact this
    refine s_retU (eu_tup (ea_cons (v1 _ (Ex.refl _)) (ea_cons (v2 _ (Ex.refl _)) ea_nil)) (by show 2 ≤ 100000; decide)) fun t H3 ht x4 h3 => kk t H3 ?_ ?_ h3
    · exact ex_fresh ((x1.trans x2).trans x3) ht
    · exact ((x1.trans x2).trans x3).trans x4
end
end K08
set_option Elab.async false
set_option linter.all false
set_option maxRecDepth 100000
set_option maxHeartbeats 4000000
namespace K08
open PySem PySem.Spec PyProof.Rows L2 GxR Pu Evl Sv
theorem clear_comm (s o : S5) : clear s o = clear o s := by
  unfold clear apart within
  rw [Bool.eq_iff_iff]
  simp only [Bool.or_eq_true, Bool.and_eq_true, decide_eq_true_eq]
  omega
abbrev nLNest : List Str := ["_law_spans", "_law_at", "_law_other", "_law_stand_here"]
theorem scLNested : FnScope nLNest ["_law_spans"] (defScope sLNested) := ⟨rfl, rfl, rfl, by decide +kernel, rfl, by decide +kernel, by decide +kernel⟩
def spLNested (K : PySem.W.Frag) : Sp := fun vs H Q _ => ∃ (e : Addr) (xs : List V) (L : List S5), vs = [.ref e] ∧ SqL K H e xs ∧ Paired (SpE K H) L xs ∧ (∀ s ∈ L, s.Ok ∧ s.f + s.n ≤ 1000) ∧ L.length ≤ 1000 ∧ ∀ (b : Bool) H', Ex H H' → (b = true ↔ NestP L) → Q (.bl b) H'
section
variable {P : Program} {w : World} {K : PySem.W.Frag} {mg : Str → Option Value} {base : Heap} {f f1 : Addr} {fd d1 : FuncData}
theorem ok_lnested (G : Mg mg) (F : Fun K "_law_is_nested" "_law_is_nested" sLNested f fd) (C : Cal P w K mg base "_law_stand" ["_law_one", "_law_other"] sLStand 2 (spStand K) f1 d1) : FnOk P w K mg base CX0 3 f fd ["_law_spans"] (spLNested K) := by
  refine F.ok scLNested (fun vs H Q E h => ?_) (fun cdv A outer s0 H vs Q E hr h => ?_)
  · obtain ⟨e, xs, L, rfl, _⟩ := h
    rfl
  · obtain ⟨e, xs, L, rfl, he, hw, ok, hl, kk⟩ := h
    refine ⟨_, (pss_cons (ps_for PassesOwn.never rfl (pi_range1 (by rfl) G.range (pa_cons (pe_callB call_len_seq (by rfl) G.len PySem.boot_len (pa_cons (pv 0) pa_nil)) pa_nil)) (pg_name (i := 1) scLNested.nd rfl (.inl rfl))
          (pss_one (ps_for PassesOwn.never rfl (pi_seq (pe_slice sl_list (pv 0) po_none (po_some (pv 1)))) (pg_name (i := 2) scLNested.nd rfl (.inl rfl))
              (pss_cons (ps_set (i := 3) scLNested.nd rfl (.inl rfl) (pe_call C.ok (hr.mono (by decide)) (by rfl) C.ns.mg C.ns.fn.kp C.ns.bd .nil pass0 (pa_cons (pe_ix ix_seq (pv 0) (pv 1) (fun _ _ => rfl)) (pa_cons (pv 2) pa_nil))))
              (pss_one (ps_if (PW.pt (pw_and (pt_not (pt_val (pe_ix ix_seq (pv 3) pe_int (fun _ _ => rfl)))) (pw_and (pt_not (pt_val (pe_ix ix_seq (pv 3) pe_int (fun _ _ => rfl)))) (pw_and1 (pt_not (pt_val (pe_ix ix_seq (pe_call C.ok (hr.mono (by decide)) (by rfl) C.ns.mg C.ns.fn.kp C.ns.bd .nil pass0 (pa_cons (pv 2) (pa_cons (pe_ix ix_seq (pv 0) (pv 1) (fun _ _ => rfl)) pa_nil))) pe_int (fun _ _ => rfl)))))))) (pss_one (ps_ret pe_bl)) pss_nil))))))
      (pss_one (ps_ret pe_bl))), ?_⟩
    have hxl : L.length = xs.length := Paired.length hw
    have sx : ∀ {s o : S5} {v u : V} {H1 : Hp}, Ex H H1 → SpE K H s v → SpE K H o u → (s.Ok ∧ s.f + s.n ≤ 1000) → (o.Ok ∧ o.f + o.n ≤ 1000) → ∀ {te te' : TE} {σ : L2.St}, Ev te σ H1 v → Ev te' σ H1 u → EvU (tCall (spStand K) [] E0 (tCons te (tCons te' tNil))) σ H1 [.bl (within s o), .bl (apart s o)] :=
      fun {s o v u H1} e1 h1 h2 k1 k2 {te te' σ} a b H2 e2 Q q => a H2 e2 _ fun H3 e3 => b H3 (e2.trans e3) _ fun H4 e4 => ⟨s, o, v, u, rfl, h1.ex (((e1.trans e2).trans e3).trans e4), h2.ex (((e1.trans e2).trans e3).trans e4), k1.1, k2.1, k1.2, k2.2, fun p H' hp e5 h5 => q p H' (ex_fresh (e3.trans e4) hp) ((e3.trans e4).trans e5) h5⟩
    refine q_forR1 (ea_cons (ev_cb (ea_cons (ev_var rfl) ea_nil) (rc_lenE (.inl he))) ea_nil) ⟨by omega, by omega⟩ (fun i σ' H' => ∃ y1 y2 y3, σ' = [some (.ref e), y1, y2, y3] ∧ Ex H H' ∧ ∀ (j k : Nat) (s o : S5), j < k → k < i → L[j]? = some s → L[k]? = some o → clear s o = true)
      (fun H1 e1 => ⟨none, none, none, rfl, e1, fun _ _ _ _ _ z => absurd z (Nat.not_lt_zero _)⟩) ?_ ?_
    · intro i σ' H' hi hPv
      obtain ⟨y1, y2, y3, rfl, ex, inv⟩ := hPv
      have hi2 : i < xs.length := by omega
      obtain ⟨x, hx⟩ : ∃ x, xs[i]? = some x := ⟨_, List.getElem?_eq_getElem hi2⟩
      obtain ⟨s, hs, hps⟩ := Paired.atR hw hx
      have oks := ok s (List.mem_of_getElem? hs)
      have ct : cutV xs none (some (i : Int)) = xs.take i := by
        unfold cutV
        rw [HT.sIx_nat, HT.sIx_none, Nat.min_eq_left (by omega), List.drop_zero, Nat.sub_zero]
      have el := el_sl (K := K) (te := tVar 0) (tl := tNoPart) (th := tPart (tVar 1)) (σ := [some (.ref e), some (.int (i : Int)), y2, y3]) (H := H') (a := e) (xs := xs) (ev_var rfl) eo_none (eo_some (ev_var rfl)) (ex_l ex he)
      rw [ct] at el
      refine el _ (Ex.refl _) _ fun p H1 hp x1 h1 => ⟨p, _, rfl, .inr (SqL.of h1), fun J Gd wk hG => for_it wk (fun m σ' H'' => ∃ z2 z3, σ' = [some (.ref e), some (.int (i : Int)), z2, z3] ∧ Ex H1 H'' ∧ ∀ (j : Nat) (o : S5), j < m → L[j]? = some o → clear s o = true)
        ⟨y2, y3, rfl, Ex.refl _, fun _ _ z => absurd z (Nat.not_lt_zero _)⟩ (fun m σ' H'' _ q => by obtain ⟨_, _, _, e', _⟩ := q; exact hG _ e') ?_ ?_⟩
      · intro m z σ' Ha Hb hm hPv hy
        obtain ⟨z2, z3, rfl, e', inv2⟩ := hPv
        obtain ⟨rfl, hz⟩ := hy
        have hm2 : m < i := by rw [List.length_take] at hm; omega
        rw [List.getElem?_take_of_lt hm2] at hz
        obtain ⟨o, ho, hpo⟩ := Paired.atR hw hz
        have oko := ok o (List.mem_of_getElem? ho)
        have exb : Ex H Hb := (ex.trans x1).trans e'
        have at0 : atI xs (i : Int) = some x := atI_nat hx
        have vA : ∀ (σ : L2.St) (H2 : Hp), σ[0]? = some (some (.ref e)) → σ[1]? = some (some (.int (i : Int))) → Ex H H2 → Ev (tOp (rIx K) (tVar 0) (tVar 1)) σ H2 x := fun σ H2 h0 h1 e2 => ev_op (ev_var h0) (ev_var h1) (rv_ixE (.inr (ex_l e2 he)) at0)
        have u1 := sx (te := tOp (rIx K) (tVar 0) (tVar 1)) (te' := tVar 2) (σ := [some (.ref e), some (.int (i : Int)), some z, z3]) exb hps hpo oks oko (vA _ _ rfl rfl exb) (ev_var rfl)
        refine q_asgU u1 fun r H2 hr0 x2 h2 => ?_
        have exc := exb.trans x2
        have u2 := sx (te := tVar 2) (te' := tOp (rIx K) (tVar 0) (tVar 1)) (σ := [some (.ref e), some (.int (i : Int)), some z, some (.ref r)]) exc hpo hps oko oks (ev_var rfl) (vA _ _ rfl rfl exc)
        have b1 : EvT (tAnd (tNot (tB (tOp (rIx K) (tVar 3) (tC (.int 0))))) (tAnd (tNot (tB (tOp (rIx K) (tVar 3) (tC (.int 1))))) (tNot (tB (tOp (rIx K) (tCall (spStand K) [] E0 (tCons (tVar 2) (tCons (tOp (rIx K) (tVar 0) (tVar 1)) tNil))) (tC (.int 0)))))))
            [some (.ref e), some (.int (i : Int)), some z, some (.ref r)] H2 (!within s o && (!apart s o && !within o s)) :=
          et_and (et_not (et_B (ev_op (ev_var rfl) ev_c (rv_ixE (.inl (SqT.of h2)) (atI_nat (xs := [V.bl (within s o), .bl (apart s o)]) (j := 0) rfl))))) fun _ =>
            et_and (et_not (et_B (ev_op (ev_var rfl) ev_c (rv_ixE (.inl (SqT.of h2)) (atI_nat (xs := [V.bl (within s o), .bl (apart s o)]) (j := 1) rfl))))) fun _ =>
              et_not (et_B (ev_opU1 u2 (fun _ _ => ev_c) fun p2 H3 h3 => rv_ixE (.inl (SqT.of h3)) (atI_nat (xs := [V.bl (within o s), .bl (apart o s)]) (j := 0) rfl)))
        have bc : (!within s o && (!apart s o && !within o s)) = !clear s o := by
          unfold clear
          cases within s o <;> cases apart s o <;> cases within o s <;> rfl
        rw [bc] at b1
        refine s_if b1 (fun z4 H3 x3 => ?_) fun z4 H3 x3 => ?_
        · refine kk false H3 (exc.trans x3) ⟨(fun z => nomatch z), fun n => ?_⟩
          have := n m i o s hm2 ho hs
          rw [clear_comm] at this
          rw [this] at z4
          exact z4
        · refine ⟨_, _, rfl, (e'.trans x2).trans x3, fun j o' hj ho' => ?_⟩
          by_cases z5 : j < m
          · exact inv2 j o' z5 ho'
          · have : j = m := by omega
            subst this
            rw [ho] at ho'
            cases ho'
            simpa using z4
      · intro σ' H'' hPv
        obtain ⟨z2, z3, rfl, e', inv2⟩ := hPv
        refine ⟨_, _, _, rfl, (ex.trans x1).trans e', fun j k s1 o1 h1 h2 h3 h4 => ?_⟩
        by_cases z5 : k < i
        · exact inv j k s1 o1 h1 z5 h3 h4
        · have : k = i := by omega
          subst this
          rw [hs] at h4
          cases h4
          rw [clear_comm]
          exact inv2 j s1 (by rw [List.length_take]; omega) h3
    · intro σ' H' hPv
      obtain ⟨y1, y2, y3, rfl, ex, inv⟩ := hPv
      exact kk true H' ex ⟨fun _ i j s o h1 h2 h3 => inv i j s o h1 (by
          have := (List.getElem?_eq_some_iff.mp h3).1
          omega) h2 h3, fun _ => rfl⟩
end
end K08
set_option Elab.async false
set_option linter.all false
set_option maxRecDepth 100000
set_option maxHeartbeats 4000000
namespace K08
open PySem PySem.Spec PyProof.Rows L2 GxR Pu Evl Sv
abbrev nLSome : List Str := ["_law_box_here", "_law_values", "_law_many", "_law_first"]
theorem scLSome : FnScope nLSome ["_law_box_here", "_law_values"] (defScope sLSome) := ⟨rfl, rfl, rfl, by decide +kernel, rfl, by decide +kernel, by decide +kernel⟩
/-- a span of a stretch of values -/
def Part (v : List Int) (s : S5) : Prop := ∃ a i : Nat, a + 2 ^ i ≤ v.length ∧ s = spanOf a (sl v (a, 2 ^ i))
def Val8 (v : List Int) : Prop := v.length = 8 ∧ ∀ y ∈ v, -1000000 ≤ y ∧ y ≤ 1000000
theorem Part.vok {v : List Int} {a i : Nat} (h : Val8 v) (hp : a + 2 ^ i ≤ v.length) : Vok (sl v (a, 2 ^ i)) ∧ (sl v (a, 2 ^ i)).length = 2 ^ i := by
  have hl : (sl v (a, 2 ^ i)).length = 2 ^ i := sl_len (p := (a, 2 ^ i)) hp
  refine ⟨⟨⟨i, hl⟩, ?_, fun y hy => h.2 y (sl_mem hy)⟩, hl⟩
  rw [hl]
  have := h.1
  omega
theorem Part.ok {v : List Int} {s : S5} (h : Val8 v) (hp : Part v s) : s.Ok ∧ s.f + s.n ≤ 8 := by
  obtain ⟨a, i, h1, rfl⟩ := hp
  obtain ⟨k1, k2⟩ := Part.vok h h1
  refine ⟨spanOf_ok k1, ?_⟩
  show a + (sl v (a, 2 ^ i)).length ≤ 8
  rw [k2]
  have := h.1
  omega
theorem cut_sl {v : List Int} {a n : Nat} (h : a + n ≤ v.length) : cutV (v.map V.int) (some (a : Int)) (some ((a : Int) + n)) = (sl v (a, n)).map V.int := by
  unfold cutV sl
  have e : (a : Int) + n = ((a + n : Nat) : Int) := by omega
  rw [e, HT.sIx_nat, HT.sIx_nat, List.length_map, Nat.min_eq_left (by omega : a ≤ v.length), Nat.min_eq_left h, ← List.map_drop, ← List.map_take, show a + n - a = n by omega]
def spSome (Z : Tx) : Sp := fun vs H Q _ => ∃ (p z : Addr) (v : List Int), vs = [.ref p, .ref z] ∧ BoxAt H p ∧ H z = some (.lst (v.map V.int)) ∧ z ≠ p ∧ Val8 v ∧ Z.Ok H ∧
  ∀ s q H', Part v s → H q = none → Go Z [p] H H' → BoxAt H' p → H' q = some (.tup s.vs) → Q (.ref q) H'
section
variable {P : Program} {w : World} {K : PySem.W.Frag} {mg : Str → Option Value} {base : Heap} {Z : Tx} {f f1 f2 f3 : Addr} {fd d1 d2 d3 : FuncData}
theorem ok_lsome (G : Mg mg) (F : Fun K "_law_some" "_law_some" sLSome f fd) (C1 : Cal P w K mg base "_law_pick" ["_law_box_here", "_law_some_here"] sPick 2 spPick f1 d1) (C2 : Cal P w K mg base "_law_take" ["_law_box_here", "_law_many"] sTake 1 spTake f2 d2)
    (C3 : Cal P w K mg base "span_of" ["first", "values"] sSpanOf 6 (spSpanOf K Z) f3 d3) : FnOk P w K mg base CX0 7 f fd ["_law_box_here", "_law_values"] (spSome Z) := by
  refine F.ok scLSome (fun vs H Q E h => ?_) (fun cdv A outer s0 H vs Q E hr h => ?_)
  · obtain ⟨p, z, v, rfl, _⟩ := h
    rfl
  · obtain ⟨p, z, v, rfl, hb, hv, zp, v8, hz, kk⟩ := h
    refine ⟨_, (pss_cons (ps_set (i := 2) scLSome.nd rfl (.inl rfl) (pe_call C1.ok (hr.mono (by decide)) (by rfl) C1.ns.mg C1.ns.fn.kp C1.ns.bd .nil pass0 (pa_cons (pv 0) (pa_cons (pe_lst (pa_cons pe_int (pa_cons pe_int (pa_cons pe_int (pa_cons pe_int pa_nil))))) pa_nil))))
      (pss_cons (ps_set (i := 3) scLSome.nd rfl (.inl rfl) (pe_call C2.ok (hr.mono (by decide)) (by rfl) C2.ns.mg C2.ns.fn.kp C2.ns.bd .nil pass0 (pa_cons (pv 0) (pa_cons (pe_op op_add (pe_op op_sub (pe_callB call_len_seq (by rfl) G.len PySem.boot_len (pa_cons (pv 1) pa_nil)) (pv 2)) pe_int) pa_nil))))
      (pss_one (ps_ret (pe_call C3.ok (hr.mono (by decide)) (by rfl) C3.ns.mg C3.ns.fn.kp C3.ns.bd .nil pass0 (pa_cons (pv 3) (pa_cons (pe_slice sl_list (pv 1) (po_some (pv 3)) (po_some (pe_op op_add (pv 3) (pv 2)))) pa_nil))))))), ?_⟩
    have zm : z ∉ [p] := fun h => zp (List.mem_singleton.mp h)
    refine ⟨.ref p, rfl, by show 4 ≤ sizeLine; decide, fun l hl => ?_⟩
    have x1 := Ex.new hl (o := .lst [V.int 1, .int 1, .int 2, .int 4])
    have lp : l ≠ p := fun z => by obtain ⟨g, s, h1, _⟩ := hb; rw [z, h1] at hl; cases hl
    have g1 : Go Z [p] H (upd H l (.lst [V.int 1, .int 1, .int 2, .int 4])) := Go.ex hz x1
    refine ⟨p, l, _, rfl, hb.ex x1, upd_same, lp, by decide, by decide, fun m H2 hm xb => ?_⟩
    obtain ⟨i, hi, rfl⟩ : ∃ i : Nat, i ≤ 2 ∧ m = .int ((2 ^ i : Nat) : Int) := by
      simp only [List.mem_cons, List.not_mem_nil, or_false] at hm
      rcases hm with rfl | rfl | rfl | rfl
      · exact ⟨0, by omega, rfl⟩
      · exact ⟨0, by omega, rfl⟩
      · exact ⟨1, by omega, rfl⟩
      · exact ⟨2, by omega, rfl⟩
    have p2 : 2 ^ i ≤ 4 := by
      have : i = 0 ∨ i = 1 ∨ i = 2 := by omega
      rcases this with rfl | rfl | rfl <;> decide
    have n9 : 1 ≤ 9 - 2 ^ i ∧ 9 - 2 ^ i ≤ 100000 := by generalize 2 ^ i = k at p2; omega
    have g2 : Go Z [p] H H2 := g1.trans (Go.box g1.ok (hb.ex x1) xb)
    have hv2 := g2.kp _ _ zm (fun ps z => by cases z) hv
    have l8 := v8.1
    have ev1 : Ev (tOp (rI0 fun i j => .int (i + j)) (tOp (rI0 fun i j => .int (i - j)) (tCB (fun zs H Q => ∃ p ys, zs = [V.ref p] ∧ (SqL K H p ys ∨ SqT K H p ys) ∧ Q (.int (ys.length : Int)) H) (tCons (tVar 1) tNil)) (tVar 2)) (tC (.int 1)))
        [some (.ref p), some (.ref z), some (.int ((2 ^ i : Nat) : Int)), none] H2 (.int ((9 - 2 ^ i : Nat) : Int)) :=
      ev_is (ev_op (ev_op (ev_cb (ea_cons (ev_var rfl) ea_nil) (rc_lenE (.inl (SqL.of hv2)))) (ev_var rfl) rv_I0) ev_c rv_I0) (by rw [List.length_map, l8]; congr 1; omega)
    refine ⟨.ref p, rfl, ev1 H2 (Ex.refl _) _ fun H3 x3 => ⟨p, 9 - 2 ^ i, rfl, n9.1, n9.2, xb.1.ex x3, fun a H4 ha xb4 => ?_⟩⟩
    have g3 : Go Z [p] H H3 := g2.then x3
    have g4 : Go Z [p] H H4 := g3.trans (Go.box g3.ok (xb.1.ex x3) xb4)
    have hv4 := g4.kp _ _ zm (fun ps z => by cases z) hv
    have el := el_sl (K := K) (te := tVar 1) (tl := tPart (tVar 3)) (th := tPart (tOp (rI0 fun i j => .int (i + j)) (tVar 3) (tVar 2))) (σ := [some (.ref p), some (.ref z), some (.int ((2 ^ i : Nat) : Int)), some (.int (a : Int))]) (H := H4) (a := z) (xs := v.map V.int)
      (ev_var rfl) (eo_some (ev_var rfl)) (eo_some (ev_op (ev_var rfl) (ev_var rfl) rv_I0)) (SqL.of hv4)
    have hfit : a + 2 ^ i ≤ v.length := by rw [l8]; generalize 2 ^ i = k at *; omega
    rw [cut_sl hfit] at el
    obtain ⟨vok, vl⟩ := Part.vok v8 hfit
    refine ⟨.int (a : Int), rfl, el _ (Ex.refl _) _ fun q2 H5 hq2 x5 h5 => ⟨a, q2, sl v (a, 2 ^ i), rfl, SqL.of h5, vok, g4.ok.ex x5, fun q H6 hq g6 h6 => ?_⟩⟩
    have g5 : Go Z [p] H H5 := g4.then x5
    refine kk _ q H6 ⟨a, i, hfit, rfl⟩ (g5.fr q hq) (g5.trans g6.of0) ?_ h6
    obtain ⟨gg, ss, b1, b2⟩ := xb4.1.ex x5
    exact ⟨gg, ss, g6.kp _ _ List.not_mem_nil (fun ps z => by cases z) b1, b2⟩
end
end K08
set_option Elab.async false
set_option linter.all false
set_option maxRecDepth 100000
set_option maxHeartbeats 4000000
namespace Pu
open PySem PySem.Spec PyProof.Rows L2 GxR Evl
variable {K : PySem.W.Frag} {Z : Tx} {M : List Addr} {te : TE} {ta : TA} {σ : L2.St} {H H' H1 : Hp} {acc ys : List V} {p D b : Addr} {j : Nat}
theorem Go.bend (g : Go Z M H H1) (n : H D = none) (hD : H1 D = some (.lst acc)) : Go Z M H (upd H1 D (.lst ys)) := by
  have g2 := g.ok.list hD (H' := upd H1 D (.lst ys)) upd_same fun b o hb e => by rw [upd_ne hb]; exact e
  refine ⟨fun b o hm ht e => ?_, fun b e => g.fr b (g2.fr b e), g2.ok⟩
  rw [upd_ne (ne_of_none e n)]
  exact g.kp b o hm ht e
theorem Go.bendD (h : Z.Ok H1) (hD : H1 D = some (.lst acc)) (hm : D ∈ M) : Go Z M H1 (upd H1 D (.lst ys)) :=
  (h.list hD (H' := upd H1 D (.lst ys)) upd_same fun b o hb e => by rw [upd_ne hb]; exact e).mono fun b hb => by rw [List.mem_singleton.mp hb]; exact hm
theorem BoxAt.ne' (hb : BoxAt H p) (n : H b = none) : b ≠ p := fun z => by
  obtain ⟨g, s, h, _⟩ := hb
  rw [z, h] at n
  cases n
theorem BoxAt.ls (hb : BoxAt H p) : Ls [p] H := by
  obtain ⟨g, s, h, _⟩ := hb
  exact Ls.one h
theorem kp_tup {q : Addr} {xs : List V} (l : Ls M H) (h : H q = some (.tup xs)) : Kp Z M (fun H => H q = some (.tup xs)) H := kp_at (fun hm => by
  obtain ⟨ys, e⟩ := l q hm
  rw [h] at e
  cases e) (fun ps z => by cases z) h
theorem Ls.cons (h : H p = some (.lst acc)) (l : Ls M H) : Ls (p :: M) H := fun m hm => by
  rcases List.mem_cons.mp hm with rfl | hm
  · exact ⟨_, h⟩
  · exact l m hm
/-- [te for _ in range(n)] where te draws from the box at p -/
theorem lc_box (F : V → Hp → Prop) (N : Nat → Prop) (hz : Z.Ok H)
    (h : ∀ Q' : List V → Hp → Prop, (∀ (n : Nat) H0, n ≤ 1000 → N n → Go Z [p] H H0 → BoxAt H0 p → Q' [.int (n : Int)] H0) → ta σ H Q')
    (he : ∀ (i : Nat) (D : Addr) (acc : List V) H', Go Z [p] H H' → BoxAt H' p → H' D = some (.lst acc) → D ≠ p → ∀ Q' : VK, (∀ y H'', Go Z [p] H' H'' → BoxAt H'' p → Kp Z [p, D] (F y) H'' → Q' y H'') → te (σ.set j (some (.int (i : Int)))) H' Q')
    {Q : VK} (k : ∀ (D : Addr) (n : Nat) (acc : List V) H4, N n → acc.length = n → H D = none → Go Z [p] H H4 → BoxAt H4 p → H4 D = some (.lst acc) → Kp Z [p] (fun H => ∀ y ∈ acc, F y H) H4 → D ≠ p → Q (.ref D) H4) :
    tLc (iRng1 ta) (gName j) tYes te [j] σ H Q := by
  refine h _ fun n H0 hn hN g0 hb0 => ⟨n, rfl, by omega, by omega, fun D hD => ?_⟩
  have Dp := hb0.ne' hD
  rw [show ((n : Nat) : Int).toNat = n from Int.toNat_natCast n]
  have HDn : H D = none := g0.fr D hD
  have bx : ∀ {H1 : Hp} {ys : List V}, BoxAt H1 p → BoxAt (upd H1 D (.lst ys)) p := fun {H1 ys} hb => by
    obtain ⟨g, s, h1, h2⟩ := hb
    exact ⟨g, s, by rw [upd_ne (Ne.symm Dp)]; exact h1, h2⟩
  refine lc_inv walk_range (fun i H' acc => acc.length = i ∧ Go Z [p] H H' ∧ BoxAt H' p ∧ Kp Z [p, D] (fun H => ∀ y ∈ acc, F y H) H') (by omega) ?_ (fun _ _ _ _ => trivial) ?_ ?_
  · exact ⟨rfl, (g0.then (Ex.new hD)), bx hb0, fun H' _ y hy => absurd hy List.not_mem_nil⟩
  · intro i x Ha Hb acc hi hDa hR yy Qy Qn hy hn'
    obtain ⟨rfl, rfl⟩ := yy
    obtain ⟨hl, g, hb, kp⟩ := hR
    have es : (wipe σ [j]).set j (some (.int (0 + (i : Nat)))) = σ.set j (some (.int (i : Int))) := by
      show (σ.set j none).set j _ = _
      rw [List.set_set, Int.zero_add]
    refine ⟨wipe1, yes_then ?_⟩
    rw [es]
    refine he i D acc _ g hb hDa Dp _ fun y H4 g4 hb4 ky => ?_
    have hD4 : H4 D = some (.lst acc) := g4.kp D _ (fun z => Dp (List.mem_singleton.mp z)) (fun ps z => by cases z) hDa
    refine hy y H4 hD4 ⟨by rw [List.length_append, List.length_singleton, hl], (g.trans g4).bend HDn hD4, bx hb4, ?_⟩
    have st : Go Z [p, D] H4 (upd H4 D (.lst (acc ++ [y]))) := Go.bendD g4.ok hD4 (List.mem_cons_of_mem _ (List.mem_singleton.mpr rfl))
    have k1 := (kp.go (g4.mono fun b hb => by rw [List.mem_singleton.mp hb]; exact List.mem_cons_self ..)).go st
    have k2 := ky.go st
    intro H5 g5 z hz5
    rcases List.mem_append.mp hz5 with h5 | h5
    · exact k1 H5 g5 z h5
    · rw [List.mem_singleton.mp h5]
      exact k2 H5 g5
  · intro H4 acc hD4 hR
    obtain ⟨hl, g, hb, kp⟩ := hR
    exact k D n acc H4 hN hl HDn g hb hD4 (kp.mono fun b hb => by rw [List.mem_singleton.mp hb]; exact List.mem_cons_self ..) Dp
end Pu
set_option Elab.async false
set_option linter.all false
set_option maxRecDepth 100000
set_option maxHeartbeats 4000000
namespace K08
open PySem PySem.Spec PyProof.Rows L2 GxR Pu Evl Sv
abbrev lawN : List Str := ["_law_script", "_law_k", "_law_box_here", "_law_values", "_law_turn", "_law_spans", "_law_one", "_law_other", "_law_due", "_law_bad", "_law_parts", "_law_here", "_law_many", "_law_told", "_law_part", "_law_left", "_law_some_here", "_law_none", "_law_odd", "_law_whole", "_law_row", "_law_span"]
theorem scLaw : FnScope lawN ["_law_script"] (defScope sLaw) := ⟨rfl, rfl, rfl, by decide +kernel, rfl, by decide +kernel, by decide +kernel⟩
def bodyOf : Stmt → List Stmt
  | .For _ _ b _ _ => b
  | .If _ b _ _ => b
  | _ => []
def lawS (i : Nat) : Stmt := (defBody sLaw).getD i (.Pass ⟨0, 0, 0, 0⟩)
def forS (i : Nat) : Stmt := (bodyOf (lawS 0)).getD i (.Pass ⟨0, 0, 0, 0⟩)
abbrev LX (P : Program) (w : World) (K : PySem.W.Frag) (mg : Str → Option Value) (base : Heap) (fa : Addr) (cdv : Value) (s0 : Shared) (H0 : Hp) : Cx := (cxOf CX0 P w K mg base lawN "law" (defScope sLaw) fa cdv callerA [] s0 H0 E0).nox
/-- a step of the law, told by the turn i -/
def Ti (X : Cx) (st : Stmt) (A B : Nat → L2.St → Hp → Prop) : Prop := ∃ t, PS X st t ∧ ∀ i D σ H, A i σ H → (∀ σ' H', B i σ' H' → D.nx σ' H') → t D σ H
def Tis (X : Cx) (l : List Stmt) (A B : Nat → L2.St → Hp → Prop) : Prop := ∃ t, PSs X l t ∧ ∀ i D σ H, A i σ H → (∀ σ' H', B i σ' H' → D.nx σ' H') → t D σ H
theorem Tis.cons {X : Cx} {st : Stmt} {l : List Stmt} {A B C : Nat → L2.St → Hp → Prop} (h : Ti X st A B) (k : Tis X l B C) : Tis X (st :: l) A C := by
  obtain ⟨t, h1, h2⟩ := h
  obtain ⟨u, k1, k2⟩ := k
  exact ⟨_, pss_cons h1 k1, fun i D σ H a q => h2 i { D with nx := u D } σ H a fun σ' H' b => k2 i D σ' H' b q⟩
theorem Tis.one {X : Cx} {st : Stmt} {A B : Nat → L2.St → Hp → Prop} (h : Ti X st A B) : Tis X [st] A B := by
  obtain ⟨t, h1, h2⟩ := h
  exact ⟨_, pss_one h1, h2⟩
/-- what the law knows: slots and heap, the box at p -/
structure C (K : PySem.W.Frag) (Z : Tx) (a : Addr) (ns : List Int) (p : Addr) (σ : L2.St) (H : Hp) : Prop where
  len : σ.length = 22
  v0 : σ[0]? = some (some (.ref a))
  v2 : σ[2]? = some (some (.ref p))
  ok : Z.Ok H
  box : BoxAt H p
  scr : Kp Z [p] (fun H => SqL K H a (ns.map V.int)) H
/-- a tuple of a span -/
def SpT (s : S5) (v : V) (H : Hp) : Prop := ∃ b, v = .ref b ∧ H b = some (.tup s.vs)
structure Vs (Z : Tx) (p z : Addr) (v : List Int) (σ : L2.St) (H : Hp) : Prop where
  sl : σ[3]? = some (some (.ref z))
  v8 : Val8 v
  zp : z ≠ p
  kp : Kp Z [p] (fun H => H z = some (.lst (v.map V.int))) H
structure Sps (Z : Tx) (p q : Addr) (v : List Int) (xs : List V) (L : List S5) (σ : L2.St) (H : Hp) : Prop where
  sl : σ[5]? = some (some (.ref q))
  l1 : 1 ≤ L.length
  l3 : L.length ≤ 3
  qp : q ≠ p
  part : ∀ s ∈ L, Part v s
  kp : Kp Z [p] (fun H => H q = some (.lst xs) ∧ Paired (fun s v => SpT s v H) L xs) H
structure On (Z : Tx) (p : Addr) (i : Nat) (v : List Int) (s : S5) (b : Addr) (σ : L2.St) (H : Hp) : Prop where
  sl : σ[i]? = some (some (.ref b))
  part : Part v s
  kp : Kp Z [p] (fun H => H b = some (.tup s.vs)) H
section
variable {K : PySem.W.Frag} {Z : Tx} {a p z q b : Addr} {ns : List Int} {v : List Int} {xs : List V} {L : List S5} {s : S5} {σ : L2.St} {H H' : Hp} {i j : Nat} {u : Option V}
theorem C.go (c : C K Z a ns p σ H) (g : Go Z [p] H H') (hb : BoxAt H' p) : C K Z a ns p σ H' := ⟨c.len, c.v0, c.v2, g.ok, hb, c.scr.go g⟩
theorem C.ex (c : C K Z a ns p σ H) (e : Ex H H') : C K Z a ns p σ H' := c.go (Go.ex c.ok e) (c.box.ex e)
theorem C.set (c : C K Z a ns p σ H) (h : 3 ≤ i) : C K Z a ns p (σ.set i u) H := ⟨by rw [List.length_set]; exact c.len, sl_ne c.v0 (by omega), sl_ne c.v2 (by omega), c.ok, c.box, c.scr⟩
theorem Vs.go (c : Vs Z p z v σ H) (g : Go Z [p] H H') : Vs Z p z v σ H' := ⟨c.sl, c.v8, c.zp, c.kp.go g⟩
theorem Vs.set (c : Vs Z p z v σ H) (h : i ≠ 3) : Vs Z p z v (σ.set i u) H := ⟨sl_ne c.sl h, c.v8, c.zp, c.kp⟩
theorem Sps.go (c : Sps Z p q v xs L σ H) (g : Go Z [p] H H') : Sps Z p q v xs L σ H' := ⟨c.sl, c.l1, c.l3, c.qp, c.part, c.kp.go g⟩
theorem Sps.set (c : Sps Z p q v xs L σ H) (h : i ≠ 5) : Sps Z p q v xs L (σ.set i u) H := ⟨sl_ne c.sl h, c.l1, c.l3, c.qp, c.part, c.kp⟩
theorem On.go (c : On Z p j v s b σ H) (g : Go Z [p] H H') : On Z p j v s b σ H' := ⟨c.sl, c.part, c.kp.go g⟩
theorem On.set (c : On Z p j v s b σ H) (h : i ≠ j) : On Z p j v s b (σ.set i u) H := ⟨sl_ne c.sl h, c.part, c.kp⟩
end
def B0 (K : PySem.W.Frag) (Z : Tx) (a : Addr) (ns : List Int) (i : Nat) (σ : L2.St) (H : Hp) : Prop := ∃ p, σ.length = 22 ∧ σ[0]? = some (some (.ref a)) ∧ σ[1]? = some (some (.int (i : Int))) ∧ i < 4 ∧ Z.Ok H ∧ Kp Z [p] (fun H => SqL K H a (ns.map V.int)) H
def B1 (K : PySem.W.Frag) (Z : Tx) (a : Addr) (ns : List Int) (i : Nat) (σ : L2.St) (H : Hp) : Prop := ∃ p, C K Z a ns p σ H
def B2 (K : PySem.W.Frag) (Z : Tx) (a : Addr) (ns : List Int) (i : Nat) (σ : L2.St) (H : Hp) : Prop := ∃ p z v, C K Z a ns p σ H ∧ Vs Z p z v σ H
def B3 (K : PySem.W.Frag) (Z : Tx) (a : Addr) (ns : List Int) (i : Nat) (σ : L2.St) (H : Hp) : Prop := ∃ p z v q xs L, C K Z a ns p σ H ∧ Vs Z p z v σ H ∧ Sps Z p q v xs L σ H
def B4 (K : PySem.W.Frag) (Z : Tx) (a : Addr) (ns : List Int) (i : Nat) (σ : L2.St) (H : Hp) : Prop := ∃ p z v q xs L s1 b1 s2 b2, C K Z a ns p σ H ∧ Vs Z p z v σ H ∧ Sps Z p q v xs L σ H ∧ On Z p 6 v s1 b1 σ H ∧ On Z p 7 v s2 b2 σ H
section
variable {P : Program} {w : World} {K : PySem.W.Frag} {mg : Str → Option Value} {base : Heap} {a fa : Addr} {ns : List Int} {cdv : Value} {s0 : Shared} {H0 : Hp} {Z : Tx}
variable {fBox fTake fPick fSome : Addr} {dBox dTake dPick dSome : FuncData}
theorem ti_0 (hr : Room 9 (LX P w K mg base fa cdv s0 H0).A) (C1 : Cal P w K mg base "_law_box" ["_law_script", "_law_k"] sBox 1 (spBox K ns) fBox dBox) (hn : ns.length ≤ 100) : Ti (LX P w K mg base fa cdv s0 H0) (forS 0) (B0 K Z a ns) (B1 K Z a ns) := by
  refine ⟨_, (ps_set (i := 2) scLaw.nd rfl (.inr rfl) (pe_call C1.ok (hr.mono (by decide)) (by rfl) C1.ns.mg C1.ns.fn.kp C1.ns.bd .nil pass0 (pa_cons (pv 0) (pa_cons (pv 1) pa_nil)))), fun i D σ H hA k => ?_⟩
  obtain ⟨p, len, h0, h1, hi, hz, scr⟩ := hA
  exact ⟨_, h0, _, h1, a, i, rfl, scr.now hz, hn, by omega, fun p' H' hp e hb => k _ _ ⟨p', by rw [List.length_set]; exact len, sl_ne h0 (by decide), sl_eq (by rw [len]; decide), hz.ex e, hb, scr.renew hp e⟩⟩
theorem ti_1 (hr : Room 9 (LX P w K mg base fa cdv s0 H0).A) (G : Mg mg) (C1 : Cal P w K mg base "_law_take" ["_law_box_here", "_law_many"] sTake 1 spTake fTake dTake) : Ti (LX P w K mg base fa cdv s0 H0) (forS 1) (B1 K Z a ns) (B2 K Z a ns) := by
  refine ⟨_, (ps_set (i := 3) scLaw.nd rfl (.inr rfl) (pe_lc (own := [("_law_row", 20)]) (g := gName 20) (te := (tOp (rI0 fun i j => .int (i - j)) (tCall spTake [] E0 (tCons (tVar 2) (tCons (tC (.int 9)) tNil))) (tC (.int 4)))) (by rfl) scLaw.nd (pi_range1 (by rfl) G.range (pa_cons pe_int pa_nil)) (blkOk_by (own := [("_law_row", 20)]) (N := lawN) (sc := defScope sLaw) (by decide +kernel)) (fun _ _ _ _ _ => (pg_name (i := 20) scLaw.nd rfl (.inl rfl))) (fun _ _ _ _ _ => pts_nil) (fun _ _ _ _ _ => (pe_op op_sub (pe_call C1.ok (hr.mono (by decide)) (by rfl) C1.ns.mg C1.ns.fn.kp C1.ns.bd .nil pass0 (pa_cons (pv 2) (pa_cons pe_int pa_nil))) pe_int)))), fun i D σ H hA k => ?_⟩
  obtain ⟨p, c⟩ := hA
  refine lc_box (Z := Z) (p := p) (fun y _ => ∃ x : Int, y = .int x ∧ -1000000 ≤ x ∧ x ≤ 1000000) (fun n => n = 8) c.ok (fun Q' h => h 8 H (by decide) rfl (Go.refl c.ok) c.box) (fun i D acc H' g hb hD Dp Q' h => ?_) fun D n acc H4 hn hl hD g hb hD4 kp Dp => ?_
  · refine ⟨.ref p, sl_ne c.v2 (by decide), p, 9, rfl, by decide, by decide, hb, fun d H5 hd xb => ⟨_, _, rfl, rfl, h _ H5 (Go.box g.ok hb xb) xb.1 (kp_pure ⟨(d : Int) - 4, rfl, by omega, by omega⟩)⟩⟩
  · subst hn
    obtain ⟨v, rfl, hv⟩ : ∃ v : List Int, acc = v.map V.int ∧ ∀ y ∈ v, -1000000 ≤ y ∧ y ≤ 1000000 := by
      have h0 := kp.now g.ok
      clear kp hD4 hl
      induction acc with
      | nil => exact ⟨[], rfl, fun _ h => absurd h List.not_mem_nil⟩
      | cons y acc ih =>
        obtain ⟨x, rfl, h1, h2⟩ := h0 _ (List.mem_cons_self ..)
        obtain ⟨v, rfl, h3⟩ := ih fun y hy => h0 y (List.mem_cons_of_mem _ hy)
        exact ⟨x :: v, rfl, fun y hy => (List.mem_cons.mp hy).elim (fun z => z ▸ ⟨h1, h2⟩) (h3 y)⟩
    rw [List.length_map] at hl
    exact k _ _ ⟨p, D, v, (c.go g hb).set (by decide), ⟨sl_eq (by rw [c.len]; decide), ⟨hl, hv⟩, Dp, kp_at (fun z => Dp (List.mem_singleton.mp z)) (fun ps z => by cases z) hD4⟩⟩
theorem ti_2 (hr : Room 9 (LX P w K mg base fa cdv s0 H0).A) (G : Mg mg) (C1 : Cal P w K mg base "_law_take" ["_law_box_here", "_law_many"] sTake 1 spTake fTake dTake) (C2 : Cal P w K mg base "_law_some" ["_law_box_here", "_law_values"] sLSome 7 (spSome Z) fSome dSome) : Ti (LX P w K mg base fa cdv s0 H0) (forS 2) (B2 K Z a ns) (B3 K Z a ns) := by
  refine ⟨_, (ps_setLc (i := 5) (own := [("_law_turn", 4)]) (g := gName 4) (te := (tCall (spSome Z) [] E0 (tCons (tVar 2) (tCons (tVar 3) tNil)))) (by rfl) scLaw.nd rfl rfl (sw_true rfl rfl rfl (by decide +kernel)) (pi_range1 (by rfl) G.range (pa_cons (pe_op op_add pe_int (pe_call C1.ok (hr.mono (by decide)) (by rfl) C1.ns.mg C1.ns.fn.kp C1.ns.bd .nil pass0 (pa_cons (pv 2) (pa_cons pe_int pa_nil)))) pa_nil)) (blkOk_by (own := [("_law_turn", 4)]) (N := lawN) (sc := defScope sLaw) (by decide +kernel)) (fun _ _ _ _ _ => (pg_name (i := 4) scLaw.nd rfl (.inl rfl))) (fun _ _ _ _ _ => pts_nil) (fun _ _ _ _ _ => (pe_call C2.ok (hr.mono (by decide)) (by rfl) C2.ns.mg C2.ns.fn.kp C2.ns.bd .nil pass0 (pa_cons (pv 2) (pa_cons (pv 3) pa_nil))))), fun i D σ H hA k => ?_⟩
  obtain ⟨p, z, v, c, vs⟩ := hA
  refine lc_box (Z := Z) (p := p) (fun y H => ∃ s, Part v s ∧ SpT s y H) (fun n => 1 ≤ n ∧ n ≤ 3) c.ok (fun Q' h => ?_) (fun i D acc H' g hb hD Dp Q' h => ?_) fun D n acc H4 hn hl hD g hb hD4 kp Dp => ?_
  · refine ⟨.ref p, c.v2, p, 3, rfl, by decide, by decide, c.box, fun d H5 hd xb => ⟨1, (d : Int), rfl, rfl, ?_⟩⟩
    have e : (1 : Int) + (d : Int) = ((1 + d : Nat) : Int) := by omega
    show Q' [V.int ((1 : Int) + (d : Int))] H5
    rw [e]
    exact h (1 + d) H5 (by omega) ⟨by omega, by omega⟩ (Go.box c.ok c.box xb) xb.1
  · have vs' := vs.go g
    refine ⟨.ref p, sl_ne c.v2 (by decide), .ref z, sl_ne vs.sl (by decide), p, z, v, rfl, hb, vs'.kp.now g.ok, vs.zp, vs.v8, g.ok, fun s q H6 hs hq g6 hb6 h6 => h _ H6 g6 hb6 ?_⟩
    have hD6 : H6 D = some (.lst acc) := g6.kp D _ (fun z => Dp (List.mem_singleton.mp z)) (fun ps z => by cases z) hD
    have kt := kp_tup (Z := Z) (M := [p, D]) (by
      obtain ⟨gg, ss, b1, _⟩ := hb6
      exact Ls.cons b1 (Ls.one hD6)) h6
    exact kt.imp fun H' h => ⟨s, hs, q, rfl, h⟩
  · obtain ⟨L, hL, hpL⟩ : ∃ L : List S5, (∀ s ∈ L, Part v s) ∧ Kp Z [p] (fun H => Paired (fun s v => SpT s v H) L acc) H4 := by
      have h0 := kp.now g.ok
      clear hD4 hl kp
      have lsp := hb.ls
      induction acc with
      | nil => exact ⟨[], fun _ h => absurd h List.not_mem_nil, fun _ _ => .nil⟩
      | cons y acc ih =>
        obtain ⟨s, h1, b, rfl, h2⟩ := h0 _ (List.mem_cons_self ..)
        obtain ⟨L, h3, h4⟩ := ih fun y hy => h0 y (List.mem_cons_of_mem _ hy)
        exact ⟨s :: L, fun t ht => (List.mem_cons.mp ht).elim (fun z => z ▸ h1) (h3 t), fun H' g' => .cons ⟨b, rfl, kp_tup lsp h2 H' g'⟩ (h4 H' g')⟩
    have hLl : L.length = n := by rw [← hl]; exact Paired.length (hpL.now g.ok)
    exact k _ _ ⟨p, z, v, D, acc, L, (c.go g hb).set (by decide), (vs.go g).set (by decide), ⟨sl_eq (by rw [c.len]; decide), by omega, by omega, Dp, hL, (kp_at (fun z => Dp (List.mem_singleton.mp z)) (fun ps z => by cases z) hD4).and hpL⟩⟩
theorem ti_3 (hr : Room 9 (LX P w K mg base fa cdv s0 H0).A) (C1 : Cal P w K mg base "_law_pick" ["_law_box_here", "_law_some_here"] sPick 2 spPick fPick dPick) (C2 : Cal P w K mg base "_law_some" ["_law_box_here", "_law_values"] sLSome 7 (spSome Z) fSome dSome) : Ti (LX P w K mg base fa cdv s0 H0) (forS 3) (B3 K Z a ns) (B4 K Z a ns) := by
  refine ⟨_, (ps_par (i := 6) (j := 7) rfl scLaw.nd rfl rfl (by decide) rfl rfl (pa_cons (pe_call C1.ok (hr.mono (by decide)) (by rfl) C1.ns.mg C1.ns.fn.kp C1.ns.bd .nil pass0 (pa_cons (pv 2) (pa_cons (pv 5) pa_nil))) (pa_cons (pe_call C2.ok (hr.mono (by decide)) (by rfl) C2.ns.mg C2.ns.fn.kp C2.ns.bd .nil pass0 (pa_cons (pv 2) (pa_cons (pv 3) pa_nil))) pa_nil)) (by rfl)), fun i D σ H hA k => ?_⟩
  obtain ⟨p, z, v, q, xs, L, c, vs, sp⟩ := hA
  have hq := sp.kp.now c.ok
  have hxl : L.length = xs.length := Paired.length hq.2
  have l1 := sp.l1
  have l3 := sp.l3
  refine ⟨.ref p, c.v2, .ref q, sp.sl, p, q, xs, rfl, c.box, hq.1, sp.qp, by omega, by omega, fun u H2 hu xb => ?_⟩
  have g2 := Go.box c.ok c.box xb
  obtain ⟨ix, hix⟩ := List.mem_iff_getElem?.mp hu
  have sp2 := sp.go g2
  obtain ⟨s1, hs1, b1, rfl, h1⟩ := Paired.atR (sp2.kp.now g2.ok).2 hix
  have vs2 := vs.go g2
  refine ⟨.ref p, c.v2, .ref z, vs.sl, p, z, v, rfl, xb.1, vs2.kp.now g2.ok, vs.zp, vs.v8, g2.ok, fun s2 b2 H3 hs2 hb2 g3 hb3 h3 => ⟨_, _, rfl, k _ _ ?_⟩⟩
  have c3 := (c.go g2 xb.1).go g3 hb3
  refine ⟨p, z, v, q, xs, L, s1, b1, s2, b2, (c3.set (by decide)).set (by decide), ((vs2.go g3).set (by decide)).set (by decide), ((sp2.go g3).set (by decide)).set (by decide), ⟨sl_ne (sl_eq (by rw [c.len]; decide)) (by decide), sp.part s1 (List.mem_of_getElem? hs1), (kp_tup xb.1.ls h1).go g3⟩, ⟨sl_eq (by rw [List.length_set, c.len]; decide), hs2, kp_tup hb3.ls h3⟩⟩
end
end K08
set_option Elab.async false
set_option linter.all false
set_option maxRecDepth 100000
set_option maxHeartbeats 4000000
namespace Pu
open PySem PySem.Spec PyProof.Rows L2 GxR Evl
variable {K : PySem.W.Frag} {te tl tr : TE} {ta : TA} {σ : L2.St} {H H' : Hp} {xs : List V} {a : Addr}
theorem ev_callW {sp : Sp} {gV : List V → List V} {vs : List V} {E : XK} {z : V} (h : EvA ta σ H vs) (hs : SpV sp (gV vs) H z) : Ev (tCallW sp gV E ta) σ H z := fun H1 e Q q =>
  h H1 e _ fun H2 e2 => hs H2 (e.trans e2) Q (fun H3 e3 => q H3 (e2.trans e3)) E
theorem rv_neS {t : Str} : RV rNe (.str t) (.str t) H (.bl false) := by
  have := rv_ne (H := H) (x := .str t) (y := .str t) rfl
  rw [decide_eq_true rfl] at this
  exact this
theorem rv_neI {i : Int} : RV rNe (.int i) (.int i) H (.bl false) := by
  have := rv_ne (H := H) (x := .int i) (y := .int i) rfl
  rw [decide_eq_true rfl] at this
  exact this
theorem et_neS {t : Str} (h1 : Ev tl σ H (.str t)) (h2 : Ev tr σ H (.str t)) : EvT (tTest (tOp rNe tl tr)) σ H false := et_test (ev_op h1 h2 rv_neS)
/-- list(a new tuple) -/
theorem el_listU (u : EvU te σ H xs) : EvL (tCB (rListOf K) (tCons te tNil)) σ H xs := fun H1 e Q q =>
  u H1 e _ fun p H2 hp e2 h2 => ⟨p, xs, rfl, .inr (SqT.of h2), fun l hl => q l _ (ex_fresh e2 hl) (e2.trans (Ex.new hl)) upd_same⟩
theorem Sm.bl (b : Bool) : Sm 0 0 (.bool b) := by
  cases b <;> exact ⟨Nat.le_refl _, Nat.le_refl _, by decide +kernel, rfl, rfl⟩
/-- repr of a new list -/
theorem ev_reprL {d : PyData} {n m : Nat} (el : EvL te σ H xs) (h : ∀ p H1, Ex H H1 → H1 p = some (.lst xs) → Dp K H1 (.ref p) d) (hd : isDisplay d = true) (s : Sm n m d) (hn : n ≤ 60) (hm : m ≤ 1000000) : Ev (tCB (rRepr K) (tCons te tNil)) σ H (.str d.shown) :=
  fun H1 e Q q => el H1 e _ fun p H2 _ e2 h2 => rc_repr (h p H2 (e.trans e2) h2) hd s hn hm (q H2 e2)
end Pu
namespace Pu
open PySem PySem.Spec PyProof.Rows L2 GxR Evl
theorem BoxAt.go0 {Z : Tx} {H H' : Hp} {p : Addr} (hb : BoxAt H p) (g : Go Z [] H H') : BoxAt H' p := by
  obtain ⟨gg, ss, b1, b2⟩ := hb
  exact ⟨gg, ss, g.kp _ _ List.not_mem_nil (fun ps z => by cases z) b1, b2⟩
/-- x is not False, x a truth -/
theorem op_isNotF {X : Cx} : OpR X (compareOp .IsNot) (fun x y H Q => ∃ b, x = .bl b ∧ y = .bl false ∧ Q (.bl b) H) := by
  intro pins s σ H x y v u Q I rx ry h
  obtain ⟨b, rfl, rfl, q⟩ := h
  cases (show v = Value.bool b from rx)
  cases (show u = Value.bool false from ry)
  refine wpAny_isNot_plain rfl ?_
  have e : (!(Value.bool b == Value.bool false)) = b := by cases b <;> rfl
  rw [e]
  exact ⟨.bl b, H, I, rfl, q⟩
end Pu
namespace Pu
open PySem PySem.Spec PyProof.Rows L2 GxR Evl
theorem t_cons1 {te : TE} {σ : L2.St} {H : Hp} {Q : List V → Hp → Prop} (h : te σ H fun x H1 => Q [x] H1) : tCons te tNil σ H Q := h
theorem t_callW1 {sp : Sp} {gV : List V → List V} {E : XK} {te : TE} {σ : L2.St} {H : Hp} {Q : VK} (h : te σ H fun x H1 => sp (gV [x]) H1 Q E) : tCallW sp gV E (tCons te tNil) σ H Q := h
theorem t_cb1 {r : List V → Hp → VK → Prop} {te : TE} {σ : L2.St} {H : Hp} {Q : VK} (h : te σ H fun x H1 => r [x] H1 Q) : tCB r (tCons te tNil) σ H Q := h
end Pu
namespace Pu
open PySem PySem.Spec PyProof.Rows L2 GxR Evl
/-- tuple(a new list) -/
theorem eu_tupleL {K : PySem.W.Frag} {te : TE} {σ : L2.St} {H : Hp} {xs : List V} (el : EvL te σ H xs) :
    EvU (tCB (fun xs H Q => ∃ p ys, xs = [V.ref p] ∧ ((SqL K H p ys ∧ ∀ l, H l = none → Q (V.ref l) (upd H l (.tup ys))) ∨ (SqT K H p ys ∧ Q (V.ref p) H))) (tCons te tNil)) σ H xs := fun H1 e Q q =>
  el H1 e _ fun p H2 hp e2 h2 => ⟨p, xs, rfl, .inl ⟨SqL.of h2, fun l hl => q l _ (ex_fresh e2 hl) (e2.trans (Ex.new hl)) upd_same⟩⟩
end Pu
set_option Elab.async false
set_option linter.all false
set_option maxRecDepth 100000
set_option maxHeartbeats 4000000
namespace K08
open PySem PySem.Spec PyProof.Rows L2 GxR Pu Evl Sv
section
variable {P : Program} {w : World} {K : PySem.W.Frag} {mg : Str → Option Value} {base : Heap} {a fa : Addr} {ns : List Int} {cdv : Value} {s0 : Shared} {H0 : Hp} {Z : Tx}
variable {fWi fAp fSt fNe : Addr} {dWi dAp dSt dNe : FuncData}
theorem On.e {p : Addr} {i : Nat} {v : List Int} {s : S5} {b : Addr} {σ : L2.St} {H : Hp} (o : On Z p i v s b σ H) (h : Z.Ok H) : SpE K H s (.ref b) := ⟨b, rfl, .inl (SqT.of (o.kp.now h))⟩
theorem two_bools {H1 : Hp} {q : Addr} {x y : Bool} (h : H1 q = some (.lst [.bl x, .bl y])) : Dp K H1 (.ref q) (.list [.bool x, .bool y]) := .lst (SqL.of h) (.cons (.bl _) (.cons (.bl _) .nil))
theorem sm_bools (x y : Bool) : Sm 1 2 (.list [.bool x, .bool y]) := Sm.two (Sm.bl x) (Sm.bl y)
theorem stand_use {H : Hp} {s o : S5} {v u : V} {te te' : TE} {σ : L2.St} (h1 : SpE K H s v) (h2 : SpE K H o u) (k1 : s.Ok ∧ s.f + s.n ≤ 8) (k2 : o.Ok ∧ o.f + o.n ≤ 8) (e1 : Ev te σ H v) (e2 : Ev te' σ H u) : EvU (tCall (spStand K) [] E0 (tCons te (tCons te' tNil))) σ H [.bl (within s o), .bl (apart s o)] :=
  fun H2 x2 Q q => e1 H2 x2 _ fun H3 x3 => e2 H3 (x2.trans x3) _ fun H4 x4 => ⟨s, o, v, u, rfl, h1.ex ((x2.trans x3).trans x4), h2.ex ((x2.trans x3).trans x4), k1.1, k2.1, by omega, by omega, fun p H' hp e5 h5 => q p H' (ex_fresh (x3.trans x4) hp) ((x3.trans x4).trans e5) h5⟩
theorem B4.step {i : Nat} {p z : Addr} {v : List Int} {q : Addr} {xs : List V} {L : List S5} {s1 : S5} {b1 : Addr} {s2 : S5} {b2 : Addr} {σ : L2.St} {H H' : Hp} (c : C K Z a ns p σ H) (vs : Vs Z p z v σ H) (sp : Sps Z p q v xs L σ H) (o1 : On Z p 6 v s1 b1 σ H) (o2 : On Z p 7 v s2 b2 σ H) (e : Ex H H') : B4 K Z a ns i σ H' :=
  have g : Go Z [p] H H' := Go.ex c.ok e
  ⟨p, z, v, q, xs, L, s1, b1, s2, b2, c.ex e, vs.go g, sp.go g, o1.go g, o2.go g⟩
theorem ti_4 (hr : Room 9 (LX P w K mg base fa cdv s0 H0).A) (G : Mg mg) (C1 : Cal P w K mg base "is_within" ["span", "other"] sIsWithin 2 (spTwo K within) fWi dWi) (C2 : Cal P w K mg base "is_apart" ["span", "other"] sIsApart 2 (spTwo K apart) fAp dAp)
    (C3 : Cal P w K mg base "_law_stand" ["_law_one", "_law_other"] sLStand 2 (spStand K) fSt dSt) : Ti (LX P w K mg base fa cdv s0 H0) (forS 4) (B4 K Z a ns) (B4 K Z a ns) := by
  have hu : (LX P w K mg base fa cdv s0 H0).A.units + 64 < cLine := hr.units
  have hg : (LX P w K mg base fa cdv s0 H0).A.guards = some [] := rfl
  refine ⟨_, (ps_if (pt_cmpR op_ne (pe_callB (cr_repr hu hg) (by rfl) G.repr boot_repr (pa_cons (pe_lst (pa_cons (pe_call C1.ok (hr.mono (by decide)) (by rfl) C1.ns.mg C1.ns.fn.kp C1.ns.bd .nil pass0 (pa_cons (pv 6) (pa_cons (pv 7) pa_nil))) (pa_cons (pe_call C2.ok (hr.mono (by decide)) (by rfl) C2.ns.mg C2.ns.fn.kp C2.ns.bd .nil pass0 (pa_cons (pv 6) (pa_cons (pv 7) pa_nil))) pa_nil))) pa_nil)) (pe_callB (cr_repr hu hg) (by rfl) G.repr boot_repr (pa_cons (pe_callTy (T := "list") call_list_of (by rfl) G.list (by decide +kernel) (pa_cons (pe_call C3.ok (hr.mono (by decide)) (by rfl) C3.ns.mg C3.ns.fn.kp C3.ns.bd .nil pass0 (pa_cons (pv 6) (pa_cons (pv 7) pa_nil))) pa_nil)) pa_nil)) (nomark _)) (pss_one (ps_ret pe_bl)) pss_nil), fun i D σ H hA k => ?_⟩
  obtain ⟨p, z, v, q, xs, L, s1, b1, s2, b2, c, vs, sp, o1, o2⟩ := hA
  have h1 := o1.e (K := K) c.ok
  have h2 := o2.e (K := K) c.ok
  refine s_if (et_neS (t := (PyData.list [.bool (within s1 s2), .bool (apart s1 s2)]).shown)
    (ev_reprL (el_lst (ea_cons (ev_call (ea_cons (ev_var o1.sl) (ea_cons (ev_var o2.sl) ea_nil)) (spTwo.use h1 h2)) (ea_cons (ev_call (ea_cons (ev_var o1.sl) (ea_cons (ev_var o2.sl) ea_nil)) (spTwo.use h1 h2)) ea_nil)) (by show 2 ≤ 100000; decide)) (fun _ _ _ h => two_bools h) rfl (sm_bools _ _) (by decide) (by decide))
    (ev_reprL (el_listU (stand_use h1 h2 (o1.part.ok vs.v8) (o2.part.ok vs.v8) (ev_var o1.sl) (ev_var o2.sl))) (fun _ _ _ h => two_bools h) rfl (sm_bools _ _) (by decide) (by decide))) (fun z => nomatch z) fun _ H1 e => k _ _ (B4.step c vs sp o1 o2 e)
theorem ti_5 (hr : Room 9 (LX P w K mg base fa cdv s0 H0).A) (G : Mg mg) (C1 : Cal P w K mg base "is_within" ["span", "other"] sIsWithin 2 (spTwo K within) fWi dWi) (C2 : Cal P w K mg base "is_apart" ["span", "other"] sIsApart 2 (spTwo K apart) fAp dAp)
    (W1 : KwOk K dWi ["span", "other"] ["other", "span"] (perm [1, 0]) (perm [1, 0])) (W2 : KwOk K dAp ["span", "other"] ["other", "span"] (perm [1, 0]) (perm [1, 0]))
    (C3 : Cal P w K mg base "_law_stand" ["_law_one", "_law_other"] sLStand 2 (spStand K) fSt dSt) : Ti (LX P w K mg base fa cdv s0 H0) (forS 5) (B4 K Z a ns) (B4 K Z a ns) := by
  have hu : (LX P w K mg base fa cdv s0 H0).A.units + 64 < cLine := hr.units
  have hg : (LX P w K mg base fa cdv s0 H0).A.guards = some [] := rfl
  refine ⟨_, (ps_if (pt_cmpR op_ne (pe_callB (cr_repr hu hg) (by rfl) G.repr boot_repr (pa_cons (pe_lst (pa_cons (pe_callW C1.ok (hr.mono (by decide)) (by rfl) C1.ns.mg C1.ns.fn.kp W1 pass0 (pk_cons (pv 7) (pk_cons (pv 6) pk_nil))) (pa_cons (pe_callW C2.ok (hr.mono (by decide)) (by rfl) C2.ns.mg C2.ns.fn.kp W2 pass0 (pk_cons (pv 7) (pk_cons (pv 6) pk_nil))) pa_nil))) pa_nil)) (pe_callB (cr_repr hu hg) (by rfl) G.repr boot_repr (pa_cons (pe_callTy (T := "list") call_list_of (by rfl) G.list (by decide +kernel) (pa_cons (pe_call C3.ok (hr.mono (by decide)) (by rfl) C3.ns.mg C3.ns.fn.kp C3.ns.bd .nil pass0 (pa_cons (pv 6) (pa_cons (pv 7) pa_nil))) pa_nil)) pa_nil)) (nomark _)) (pss_one (ps_ret pe_bl)) pss_nil), fun i D σ H hA k => ?_⟩
  obtain ⟨p, z, v, q, xs, L, s1, b1, s2, b2, c, vs, sp, o1, o2⟩ := hA
  have h1 := o1.e (K := K) c.ok
  have h2 := o2.e (K := K) c.ok
  refine s_if (et_neS (t := (PyData.list [.bool (within s1 s2), .bool (apart s1 s2)]).shown)
    (ev_reprL (el_lst (ea_cons (ev_callW (ea_cons (ev_var o2.sl) (ea_cons (ev_var o1.sl) ea_nil)) (spTwo.use h1 h2)) (ea_cons (ev_callW (ea_cons (ev_var o2.sl) (ea_cons (ev_var o1.sl) ea_nil)) (spTwo.use h1 h2)) ea_nil)) (by show 2 ≤ 100000; decide)) (fun _ _ _ h => two_bools h) rfl (sm_bools _ _) (by decide) (by decide))
    (ev_reprL (el_listU (stand_use h1 h2 (o1.part.ok vs.v8) (o2.part.ok vs.v8) (ev_var o1.sl) (ev_var o2.sl))) (fun _ _ _ h => two_bools h) rfl (sm_bools _ _) (by decide) (by decide))) (fun z => nomatch z) fun _ H1 e => k _ _ (B4.step c vs sp o1 o2 e)
def B5 (K : PySem.W.Frag) (Z : Tx) (a : Addr) (ns : List Int) (i : Nat) (σ : L2.St) (H : Hp) : Prop := ∃ p z v q xs L s1 b1 s2 b2, ∃ b : Bool, C K Z a ns p σ H ∧ Vs Z p z v σ H ∧ Sps Z p q v xs L σ H ∧ On Z p 6 v s1 b1 σ H ∧ On Z p 7 v s2 b2 σ H ∧ σ[8]? = some (some (.bl b)) ∧ (b = true ↔ NestP L)
theorem Sps.e {p q : Addr} {v : List Int} {xs : List V} {L : List S5} {σ : L2.St} {H : Hp} (s : Sps Z p q v xs L σ H) (h : Z.Ok H) : SqL K H q xs ∧ Paired (SpE K H) L xs := ⟨SqL.of (s.kp.now h).1, Paired.mapP (s.kp.now h).2 fun _ _ ⟨b, e, h⟩ => ⟨b, e, .inl (SqT.of h)⟩⟩
theorem ti_6 (hr : Room 9 (LX P w K mg base fa cdv s0 H0).A) (C1 : Cal P w K mg base "_law_is_nested" ["_law_spans"] sLNested 3 (spLNested K) fNe dNe) : Ti (LX P w K mg base fa cdv s0 H0) (forS 6) (B4 K Z a ns) (B5 K Z a ns) := by
  refine ⟨_, (ps_set (i := 8) scLaw.nd rfl (.inl rfl) (pe_call C1.ok (hr.mono (by decide)) (by rfl) C1.ns.mg C1.ns.fn.kp C1.ns.bd .nil pass0 (pa_cons (pv 5) pa_nil))), fun i D σ H hA k => ?_⟩
  obtain ⟨p, z, v, q, xs, L, s1, b1, s2, b2, c, vs, sp, o1, o2⟩ := hA
  have hq := sp.e (K := K) c.ok
  have l3 := sp.l3
  refine ⟨.ref q, sp.sl, q, xs, L, rfl, hq.1, hq.2, fun s hs => ⟨((sp.part s hs).ok vs.v8).1, by have := ((sp.part s hs).ok vs.v8).2; omega⟩, by omega, fun b H' e hb => k _ _ ?_⟩
  have g : Go Z [p] H H' := Go.ex c.ok e
  exact ⟨p, z, v, q, xs, L, s1, b1, s2, b2, b, (c.ex e).set (by decide), (vs.go g).set (by decide), (sp.go g).set (by decide), (o1.go g).set (by decide), (o2.go g).set (by decide), sl_eq (by rw [c.len]; decide), hb⟩
end
end K08
set_option Elab.async false
set_option linter.all false
set_option maxRecDepth 100000
set_option maxHeartbeats 4000000
namespace K08
open PySem PySem.Spec PyProof.Rows L2 GxR Pu Evl Sv
section
variable {P : Program} {w : World} {K : PySem.W.Frag} {mg : Str → Option Value} {base : Heap} {a fa : Addr} {ns : List Int} {cdv : Value} {s0 : Shared} {H0 : Hp} {Z : Tx}
variable {fAN fBe fPick : Addr} {dAN dBe dPick : FuncData}
/-- [list(x) for x in spans] -/
theorem lc_lists {σ : L2.St} {H : Hp} {q : Addr} {xs : List V} {L : List S5} {i j : Nat} (hj : j < σ.length) (h0 : σ[i]? = some (some (.ref q))) (he : SqE K H q xs) (hw : Paired (SpE K H) L xs) (hl : L.length ≤ 2000) {Q : VK}
    (k : ∀ D acc H', Ex H H' → H' D = some (.lst acc) → Paired (fun (s : S5) (v : V) => ∃ b, v = .ref b ∧ H' b = some (.lst s.vs)) L acc → Q (.ref D) H') : tLc (iSeq K (tVar i)) (gName j) tYes (tCB (rListOf K) (tCons (tVar j) tNil)) [j] σ H Q := by
  have hxl : L.length = xs.length := Paired.length hw
  refine ⟨.ref q, h0, q, xs, rfl, he, fun J Gd wk hG D hD => ?_⟩
  refine lc_gen wk (fun m H' acc => (∃ z, H' D = some (.lst z)) ∧ Paired (fun (s : S5) (v : V) => ∃ b, v = .ref b ∧ b ≠ D ∧ H' b = some (.lst s.vs)) (L.take m) acc) (by omega) hD (fun m H' xs ys acc h r => ?_) ⟨⟨[], upd_same⟩, .nil⟩ hG ?_ ?_
  · exact ⟨⟨ys, upd_same⟩, Paired.mapP r.2 fun p v ⟨b, h1, h2, h3⟩ => ⟨b, h1, h2, by rw [upd_ne h2]; exact h3⟩⟩
  · intro m y Ha Hb acc hi ex yy hR Qy Qn hy hn
    obtain ⟨rfl, hx⟩ := yy
    obtain ⟨⟨z, hz⟩, hR⟩ := hR
    obtain ⟨s, hs, hp⟩ := Paired.atR hw hx
    obtain ⟨b, rfl, hb⟩ := hp.ex ex
    have tk : L.take (m + 1) = L.take m ++ [s] := by rw [List.take_add_one, hs]; rfl
    refine ⟨wipe1, yes_then ⟨.ref b, wipe_at hj, b, _, rfl, hb.symm, fun r hr => hy _ _ (Ex.new hr) ?_⟩⟩
    rw [tk]
    exact ⟨⟨z, Ex.new hr _ _ hz⟩, Paired.app (Paired.mapP hR fun p v ⟨b, h1, h2, h3⟩ => ⟨b, h1, h2, Ex.new hr _ _ h3⟩) (.cons ⟨r, rfl, (fun w => by rw [w, hz] at hr; cases hr), upd_same⟩ .nil)⟩
  · intro H4 acc e4 hD4 hR
    rw [← hxl, List.take_length] at hR
    exact k D acc H4 e4 hD4 (Paired.mapP hR.2 fun p v ⟨b, h1, h2, h3⟩ => ⟨b, h1, h3⟩)
theorem ti_7 (hr : Room 9 (LX P w K mg base fa cdv s0 H0).A) (G : Mg mg) (C1 : Cal P w K mg base "are_nested" ["value"] sAreNested 7 (spNested K Z) fAN dAN) (C2 : Cal P w K mg base "behind" ["span"] sBehind 1 (spBehind K) fBe dBe)
    (W1 : KwOk K dAN ["value"] ["value"] (perm [0]) (perm [0])) (W2 : KwOk K dBe ["span"] ["span"] (perm [0]) (perm [0])) : Ti (LX P w K mg base fa cdv s0 H0) (forS 7) (B5 K Z a ns) (B4 K Z a ns) := by
  have hu : (LX P w K mg base fa cdv s0 H0).A.units + 64 < cLine := hr.units
  have hg : (LX P w K mg base fa cdv s0 H0).A.guards = some [] := rfl
  refine ⟨_, (ps_if (PW.pt (pw_or (pt_cmpR op_ne (pe_callB (cr_repr hu hg) (by rfl) G.repr boot_repr (pa_cons (pe_lst (pa_cons (pe_call C1.ok (hr.mono (by decide)) (by rfl) C1.ns.mg C1.ns.fn.kp C1.ns.bd .nil pass0 (pa_cons (pv 5) pa_nil)) (pa_cons (pe_callW C1.ok (hr.mono (by decide)) (by rfl) C1.ns.mg C1.ns.fn.kp W1 pass0 (pk_cons (pe_callTy (T := "tuple") call_tuple_of (by rfl) G.tuple (by decide +kernel) (pa_cons (pe_lc (own := [("_law_span", 21)]) (g := gName 21) (te := (tCB (rListOf K) (tCons (tVar 21) tNil))) (by rfl) scLaw.nd (pi_seq (pv 5)) (blkOk_by (own := [("_law_span", 21)]) (N := lawN) (sc := defScope sLaw) (by decide +kernel)) (fun _ _ _ _ _ => (pg_name (i := 21) scLaw.nd rfl (.inl rfl))) (fun _ _ _ _ _ => pts_nil) (fun _ _ _ _ _ => (pe_callTy (T := "list") call_list_of (by rfl) G.list (by decide +kernel) (pa_cons (pv 21) pa_nil)))) pa_nil)) pk_nil)) pa_nil))) pa_nil)) (pe_callB (cr_repr hu hg) (by rfl) G.repr boot_repr (pa_cons (pe_lst (pa_cons (pv 8) (pa_cons (pv 8) pa_nil))) pa_nil)) (nomark _)) (pw_or1 (pt_cmpR op_ne (pe_callW C2.ok (hr.mono (by decide)) (by rfl) C2.ns.mg C2.ns.fn.kp W2 pass0 (pk_cons (pv 6) pk_nil)) (pe_op op_add (pe_ix ix_seq (pv 6) pe_int (fun _ _ => rfl)) (pe_ix ix_seq (pv 6) pe_int (fun _ _ => rfl))) (nomark _))))) (pss_one (ps_ret pe_bl)) pss_nil), fun i D σ H hA k => ?_⟩
  obtain ⟨p, z, v, q, xs, L, s1, b1, s2, b2, b, c, vs, sp, o1, o2, h8, hb⟩ := hA
  have hq := sp.e (K := K) c.ok
  have l3 := sp.l3
  have ok : ∀ s ∈ L, s.Ok := fun s hs => ((sp.part s hs).ok vs.v8).1
  refine ⟨.ref q, sp.sl, .ref q, rfl, c.ok, .inr ⟨q, xs, L, rfl, .inr hq.1, hq.2, ok, by omega, fun bA H1 g1 hA => ?_⟩⟩
  have g1p : Go Z [p] H H1 := g1.of0
  have hq1 := (sp.go g1p).e (K := K) g1.ok
  show tCons _ _ _ _ _
  refine t_cons1 (t_callW1 (t_cb1 (lc_lists (j := 21) (by rw [c.len]; decide) sp.sl (.inr hq1.1) hq1.2 (by omega) fun Dl acc H2 x2 hD2 pr => ?_)))
  refine ⟨Dl, acc, rfl, .inl ⟨SqL.of hD2, fun r hr' => ?_⟩⟩
  have x3 := Ex.new hr' (o := .tup acc)
  have ok3 := (g1.ok.ex x2).ex x3
  refine ⟨.ref r, rfl, ok3, .inr ⟨r, acc, L, rfl, .inl (SqT.of upd_same), Paired.mapP pr fun _ _ ⟨b, h1, h2⟩ => ⟨b, h1, .inr (SqL.of (x3 _ _ h2))⟩, ok, by omega, fun bB H4 g4 hB => ?_⟩⟩
  have e1 : bA = b := by rw [Bool.eq_iff_iff, hA, hb]
  have e2 : bB = b := by rw [Bool.eq_iff_iff, hB, hb]
  subst e1
  subst e2
  refine ⟨by show 2 ≤ sizeLine; decide, fun l hl => ?_⟩
  have x5 := Ex.new hl (o := .lst [V.bl bB, .bl bB])
  have g5 : Go Z [] H (upd H4 l (.lst [V.bl bB, .bl bB])) := ((g1.then (x2.trans x3)).trans g4).then x5
  dsimp only [tNil]
  refine rc_repr (two_bools upd_same) rfl (sm_bools _ _) (by decide) (by decide) ?_
  have rt := ev_reprL (K := K) (te := tLst (tCons (tVar 8) (tCons (tVar 8) tNil))) (σ := σ) (H := upd H4 l (.lst [V.bl bB, .bl bB])) (el_lst (ea_cons (ev_var h8) (ea_cons (ev_var h8) ea_nil)) (by show 2 ≤ 100000; decide)) (fun _ _ _ h => two_bools h) rfl (sm_bools _ _) (by decide) (by decide)
  refine rt _ (Ex.refl _) _ fun H6 x6 => rv_neS _ (Ex.refl _) _ fun H7 x7 => ⟨false, rfl, ?_⟩
  have g7 : Go Z [p] H H7 := (g5.then (x6.trans x7)).of0
  have b7 : BoxAt H7 p := (c.box.go0 g5).ex (x6.trans x7)
  have o17 := (o1.go g7).e (K := K) g7.ok
  obtain ⟨bb, e0, q17⟩ := id o17
  cases e0
  have tb : EvT (tTest (tOp rNe (tCallW (spBehind K) (perm [0]) E0 (tCons (tVar 6) tNil)) (tOp (rI0 fun i j => .int (i + j)) (tOp (rIx K) (tVar 6) (tC (.int 0))) (tOp (rIx K) (tVar 6) (tC (.int 1)))))) σ H7 false :=
    et_test (ev_op (ev_callW (ea_cons (ev_var o1.sl) ea_nil) (spBehind.use o17)) (ev_is (ev_op (ev_op (ev_var o1.sl) ev_c (rv_ixE q17 (ix0 s1))) (ev_op (ev_var o1.sl) ev_c (rv_ixE q17 (ix1 s1))) rv_I0) (by show V.int ((s1.f : Int) + s1.n) = V.int ((s1.f + s1.n : Nat) : Int); rfl)) rv_neI)
  show (if false = true then _ else _)
  rw [if_neg (by decide)]
  refine tb _ (Ex.refl _) _ fun H8 x8 => ?_
  rw [if_neg (by decide)]
  have g8 : Go Z [p] H H8 := g7.then x8
  exact k _ _ ⟨p, z, v, q, xs, L, s1, b1, s2, b2, c.go g8 (b7.ex x8), vs.go g8, sp.go g8, o1.go g8, o2.go g8⟩
end
end K08
set_option Elab.async false
set_option linter.all false
set_option maxRecDepth 100000
set_option maxHeartbeats 4000000
namespace K08
open PySem PySem.Spec PyProof.Rows L2 GxR Pu Evl Sv
theorem spans_true {K : PySem.W.Frag} {H : Hp} {L : List S5} {xs : List V} (h : Paired (SpE K H) L xs) (ok : ∀ s ∈ L, s.Ok) : Paired (fun b v => SpanH K H v b) (L.map fun _ => true) xs := by
  induction h with
  | nil => exact .nil
  | cons a b ih => exact .cons (SpanH.of a (ok _ (List.mem_cons_self ..))) (ih fun s hs => ok s (List.mem_cons_of_mem _ hs))
theorem all_last (L : List S5) : ((L.map fun _ => true) ++ [false]).all id = false := by
  rw [List.all_append]
  show (_ && (id false && true)) = false
  simp
theorem kp_new {Z : Tx} {p b : Addr} {o : HO} {Hx Hh H' : Hp} (hbox : BoxAt Hx p) (n : Hx b = none) (e : Ex (upd Hx b o) Hh) (xb : ExB p Hh H') (m : ∀ ps, o ≠ .tbl ps) : Kp Z [p] (fun H => H b = some o) H' :=
  kp_at (fun z => (hbox.ne' n) (List.mem_singleton.mp z)) m (xb.2 _ _ (hbox.ne' n) (e _ _ upd_same))
/-- spans, then what is none -/
theorem are_last {K : PySem.W.Frag} {H : Hp} {L : List S5} {xs : List V} {r : Addr} {u : V} (h : Paired (SpE K H) L xs) (ok : ∀ s ∈ L, s.Ok) (hr : SqE K H r (xs ++ [u])) (hu : SpanH K H u false) : AreS K H (.ref r) false := by
  have := AreS.seq hr (Paired.app (spans_true h ok) (.cons hu .nil))
  rw [all_last] at this
  exact this
def B6 (K : PySem.W.Frag) (Z : Tx) (a : Addr) (ns : List Int) (i : Nat) (σ : L2.St) (H : Hp) : Prop := ∃ p z v q xs L s1 b1 s2 b2, ∃ u : V, C K Z a ns p σ H ∧ Vs Z p z v σ H ∧ Sps Z p q v xs L σ H ∧ On Z p 6 v s1 b1 σ H ∧ On Z p 7 v s2 b2 σ H ∧ σ[9]? = some (some u) ∧ Kp Z [p] (fun H => AreS K H u false) H
section
variable {P : Program} {w : World} {K : PySem.W.Frag} {mg : Str → Option Value} {base : Heap} {a fa : Addr} {ns : List Int} {cdv : Value} {s0 : Shared} {H0 : Hp} {Z : Tx}
variable {fAN fPick : Addr} {dAN dPick : FuncData}
theorem ti_8 (hr : Room 9 (LX P w K mg base fa cdv s0 H0).A) (C1 : Cal P w K mg base "_law_pick" ["_law_box_here", "_law_some_here"] sPick 2 spPick fPick dPick) : Ti (LX P w K mg base fa cdv s0 H0) (forS 8) (B4 K Z a ns) (B6 K Z a ns) := by
  refine ⟨_, (ps_set (i := 9) scLaw.nd rfl (.inl rfl) (pe_call C1.ok (hr.mono (by decide)) (by rfl) C1.ns.mg C1.ns.fn.kp C1.ns.bd .nil pass0 (pa_cons (pv 2) (pa_cons (pe_lst (pa_cons pe_non (pa_cons pe_int (pa_cons (pe_lst (pa_cons pe_non pa_nil)) (pa_cons (pe_op op_cat (pv 5) (pe_lst (pa_cons (pe_slice sl_tup (pv 6) po_none (po_some pe_int)) pa_nil))) (pa_cons (pe_op op_cat (pv 5) (pe_lst (pa_cons (pe_tup (pa_cons pe_int (pa_cons pe_int (pa_cons pe_int (pa_cons pe_int (pa_cons pe_int pa_nil)))))) pa_nil))) (pa_cons pe_str pa_nil))))))) pa_nil)))), fun i D σ H hA k => ?_⟩
  obtain ⟨p, z, v, q, xs, L, s1, b1, s2, b2, c, vs, sp, o1, o2⟩ := hA
  have hq := (sp.kp.now c.ok).1
  have hxl : L.length = xs.length := Paired.length (sp.kp.now c.ok).2
  have l3 := sp.l3
  have ok : ∀ s ∈ L, s.Ok := fun s hs => ((sp.part s hs).ok vs.v8).1
  refine ⟨.ref p, c.v2, by show 1 ≤ sizeLine; decide, fun r3 hr3 => ?_⟩
  have x1 := Ex.new hr3 (o := .lst [V.non])
  have nw : ¬ (HT.sIx s1.vs.length 0 none = 0 ∧ HT.sIx s1.vs.length s1.vs.length (some 4) = s1.vs.length) := fun h => absurd h.2 (by show ¬ HT.sIx 5 5 (some 4) = 5; decide)
  have ec : cutV s1.vs none (some 4) = [.int (s1.f : Int), .int (s1.n : Int), .int s1.w, .int s1.lo] := rfl
  refine ⟨.ref q, sp.sl, .ref b1, o1.sl, 4, rfl, b1, s1.vs, rfl, SqT.of (x1 _ _ (o1.kp.now c.ok)), nw, fun t ht => ⟨by show 1 ≤ sizeLine; decide, fun r hr' => ?_⟩⟩
  have x2 := Ex.new ht (o := .tup (cutV s1.vs none (some 4)))
  have x3 := Ex.new hr' (o := .lst [V.ref t])
  have x123 := (x1.trans x2).trans x3
  refine ⟨q, r, xs, [.ref t], rfl, rfl, x123 _ _ hq, upd_same, Nat.le_trans (show xs.length + 1 ≤ 10 by omega) (by decide), fun r4 hr4 => ?_⟩
  have x4 := Ex.new hr4 (o := .lst (xs ++ [V.ref t]))
  have x14 := x123.trans x4
  refine ⟨.ref q, sp.sl, by show 5 ≤ sizeLine; decide, fun t5 ht5 => ⟨by show 1 ≤ sizeLine; decide, fun r5 hr5 => ?_⟩⟩
  have x5 := Ex.new ht5 (o := .tup [V.int 0, .int 3, .int 0, .int 0, .int 0])
  have x6 := Ex.new hr5 (o := .lst [V.ref t5])
  have x16 := (x14.trans x5).trans x6
  refine ⟨q, r5, xs, [.ref t5], rfl, rfl, x16 _ _ hq, upd_same, Nat.le_trans (show xs.length + 1 ≤ 10 by omega) (by decide), fun r6 hr6 => ?_⟩
  have x7 := Ex.new hr6 (o := .lst (xs ++ [V.ref t5]))
  have x17 := x16.trans x7
  refine ⟨by show 6 ≤ sizeLine; decide, fun l hl => ?_⟩
  have x8 := Ex.new hl (o := .lst [V.non, .int 5, .ref r3, .ref r4, .ref r6, .str "span"])
  have x18 := x17.trans x8
  refine ⟨p, l, _, rfl, c.box.ex x18, upd_same, (c.box.ex x17).ne' hl, by show 1 ≤ 6; decide, by show 6 ≤ 1000; decide, fun u H' hu xb => k _ _ ?_⟩
  have g18 : Go Z [p] H _ := Go.ex c.ok x18
  have g := g18.trans (Go.box g18.ok (c.box.ex x18) xb)
  have k3 := kp_new (Z := Z) c.box hr3 ((((((x2.trans x3).trans x4).trans x5).trans x6).trans x7).trans x8) xb (fun ps z => by cases z)
  have kt := kp_new (Z := Z) (c.box.ex x1) ht (((((x3.trans x4).trans x5).trans x6).trans x7).trans x8) xb (fun ps z => by cases z)
  have k4 := kp_new (Z := Z) (c.box.ex x123) hr4 (((x5.trans x6).trans x7).trans x8) xb (fun ps z => by cases z)
  have kt5 := kp_new (Z := Z) (c.box.ex x14) ht5 ((x6.trans x7).trans x8) xb (fun ps z => by cases z)
  have k6 := kp_new (Z := Z) (c.box.ex x16) hr6 x8 xb (fun ps z => by cases z)
  have sp' := sp.go g
  have spk : Kp Z [p] (fun H => Paired (SpE K H) L xs) H' := sp'.kp.imp fun H2 h => Paired.mapP h.2 fun _ _ ⟨b, e, h⟩ => ⟨b, e, .inl (SqT.of h)⟩
  refine ⟨p, z, v, q, xs, L, s1, b1, s2, b2, u, (c.go g xb.1).set (by decide), (vs.go g).set (by decide), sp'.set (by decide), (o1.go g).set (by decide), (o2.go g).set (by decide), sl_eq (by rw [c.len]; decide), ?_⟩
  simp only [List.mem_cons, List.not_mem_nil, or_false] at hu
  rcases hu with rfl | rfl | rfl | rfl | rfl | rfl
  · exact fun _ _ => .no rfl
  · exact fun _ _ => .no rfl
  · exact k3.imp fun H2 h => AreS.seq (bs := [false]) (.inr (SqL.of h)) (.cons (.no rfl) .nil)
  · exact ((spk.and k4).and kt).imp fun H2 h => are_last h.1.1 ok (.inr (SqL.of h.1.2)) (.few (.inl (SqT.of h.2)) (by rw [ec]; show 4 ≠ 5; decide))
  · exact ((spk.and k6).and kt5).imp fun H2 h => are_last h.1.1 ok (.inr (SqL.of h.1.2)) (SpanH.five (.inl (SqT.of h.2)) (fun x hx => by
      simp only [List.mem_cons, List.not_mem_nil, or_false] at hx
      rcases hx with rfl | rfl | rfl | rfl | rfl <;> rfl) (fun n e => by cases e; decide))
  · exact fun _ _ => .no rfl
theorem ti_9 (hr : Room 9 (LX P w K mg base fa cdv s0 H0).A) (C1 : Cal P w K mg base "are_nested" ["value"] sAreNested 7 (spNested K Z) fAN dAN) : Ti (LX P w K mg base fa cdv s0 H0) (forS 9) (B6 K Z a ns) (B4 K Z a ns) := by
  refine ⟨_, (ps_if (pt_cmpR op_isNotF (pe_call C1.ok (hr.mono (by decide)) (by rfl) C1.ns.mg C1.ns.fn.kp C1.ns.bd .nil pass0 (pa_cons (pv 9) pa_nil)) pe_bl (nomark _)) (pss_one (ps_ret pe_bl)) pss_nil), fun i D σ H hA k => ?_⟩
  obtain ⟨p, z, v, q, xs, L, s1, b1, s2, b2, u, c, vs, sp, o1, o2, h9, ku⟩ := hA
  refine ⟨u, h9, u, rfl, c.ok, .inl ⟨ku.now c.ok, fun H1 g1 => ⟨false, rfl, rfl, _, rfl, ite2 (fun z => nomatch z) fun _ => k _ _ ?_⟩⟩⟩
  have g : Go Z [p] H H1 := g1.of0
  exact ⟨p, z, v, q, xs, L, s1, b1, s2, b2, c.go g (c.box.go0 g1), vs.go g, sp.go g, o1.go g, o2.go g⟩
end
end K08
set_option Elab.async false
set_option linter.all false
set_option maxRecDepth 100000
set_option maxHeartbeats 4000000
namespace Pu
open PySem PySem.Spec PyProof.Rows L2 GxR Evl
theorem Kp.add {Z : Tx} {p D : Addr} {F : Hp → Prop} {H H' : Hp} (k : Kp Z [p] F H) (n : H D = none) (e : Ex H H') : Kp Z [p, D] F H' := fun H2 y =>
  k H2 ⟨fun b o hb m q => y.kp b o (fun z => by
    rcases List.mem_cons.mp z with z | z
    · exact hb (List.mem_singleton.mpr z)
    · rw [List.mem_singleton.mp z, n] at q
      cases q) m (e b o q), fun b q => ex_fresh e (y.fr b q), y.ok⟩
end Pu
namespace K08
open PySem PySem.Spec PyProof.Rows L2 GxR Pu Evl Sv
/-- spans one behind another, from f to e -/
def Ch : Nat → List S5 → Nat → Prop
  | f, [], e => f ≤ e
  | f, s :: r, e => f ≤ s.f ∧ Ch (s.f + s.n) r e
theorem Ch.snoc {s : S5} : ∀ {L : List S5} {f e : Nat}, Ch f L e → e ≤ s.f → Ch f (L ++ [s]) (s.f + s.n)
  | [], f, e, h, k => ⟨Nat.le_trans h k, Nat.le_refl _⟩
  | t :: r, f, e, h, k => ⟨h.1, Ch.snoc h.2 k⟩
theorem Ch.mono : ∀ {L : List S5} {f e e' : Nat}, Ch f L e → e ≤ e' → Ch f L e'
  | [], f, e, e', h, k => Nat.le_trans h k
  | t :: r, f, e, e', h, k => ⟨h.1, Ch.mono h.2 k⟩
theorem Ch.to : ∀ {L : List S5} {f e m : Nat}, Ch f L e → f ≤ m → (∀ s ∈ L, s.f + s.n ≤ m) → Ch f L m
  | [], f, e, m, h, k, b => k
  | t :: r, f, e, m, h, k, b => ⟨h.1, Ch.to h.2 (b t (List.mem_cons_self ..)) fun s hs => b s (List.mem_cons_of_mem _ hs)⟩
/-- what the law holds while parts are laid down -/
structure Lp (K : PySem.W.Frag) (Z : Tx) (a : Addr) (ns : List Int) (p z bw D : Addr) (v : List Int) (L : List S5) (xs : List V) (here : Nat) (σ : L2.St) (H : Hp) : Prop where
  len : σ.length = 22
  v0 : σ[0]? = some (some (.ref a))
  v2 : σ[2]? = some (some (.ref p))
  v3 : σ[3]? = some (some (.ref z))
  v10 : σ[10]? = some (some (.ref D))
  v11 : σ[11]? = some (some (.int (here : Int)))
  v19 : σ[19]? = some (some (.ref bw))
  ok : Z.Ok H
  box : BoxAt H p
  Dp : D ≠ p
  hD : H D = some (.lst xs)
  v8 : Val8 v
  kp : Kp Z [p, D] (fun H => SqL K H a (ns.map V.int) ∧ H z = some (.lst (v.map V.int)) ∧ H bw = some (.tup (spanOf 0 v).vs) ∧ Paired (fun s v => SpT s v H) L xs) H
  zD : z ≠ p ∧ z ≠ D
  part : ∀ s ∈ L, Part v s
  ch : Ch 0 L here
section
variable {K : PySem.W.Frag} {Z : Tx} {a p z bw D : Addr} {ns : List Int} {v : List Int} {xs : List V} {L : List S5} {s : S5} {here : Nat} {σ : L2.St} {H H' : Hp} {i j : Nat} {u : Option V}
theorem Lp.go (c : Lp K Z a ns p z bw D v L xs here σ H) (g : Go Z [p] H H') (hb : BoxAt H' p) : Lp K Z a ns p z bw D v L xs here σ H' :=
  ⟨c.len, c.v0, c.v2, c.v3, c.v10, c.v11, c.v19, g.ok, hb, c.Dp, g.kp _ _ (fun z => c.Dp (List.mem_singleton.mp z)) (fun ps z => by cases z) c.hD, c.v8, c.kp.go (g.mono fun b hb => by rw [List.mem_singleton.mp hb]; exact List.mem_cons_self ..), c.zD, c.part, c.ch⟩
theorem Lp.ex (c : Lp K Z a ns p z bw D v L xs here σ H) (e : Ex H H') : Lp K Z a ns p z bw D v L xs here σ H' := c.go (Go.ex c.ok e) (c.box.ex e)
theorem Lp.set (c : Lp K Z a ns p z bw D v L xs here σ H) (h : i = 4 ∨ i = 12) : Lp K Z a ns p z bw D v L xs here (σ.set i u) H :=
  ⟨by rw [List.length_set]; exact c.len, sl_ne c.v0 (by omega), sl_ne c.v2 (by omega), sl_ne c.v3 (by omega), sl_ne c.v10 (by omega), sl_ne c.v11 (by omega), sl_ne c.v19 (by omega), c.ok, c.box, c.Dp, c.hD, c.v8, c.kp, c.zD, c.part, c.ch⟩
theorem Lp.here' (c : Lp K Z a ns p z bw D v L xs here σ H) {h' : Nat} (h : here ≤ h') : Lp K Z a ns p z bw D v L xs h' (σ.set 11 (some (.int (h' : Int)))) H :=
  ⟨by rw [List.length_set]; exact c.len, sl_ne c.v0 (by decide), sl_ne c.v2 (by decide), sl_ne c.v3 (by decide), sl_ne c.v10 (by decide), sl_eq (by rw [c.len]; decide), sl_ne c.v19 (by decide), c.ok, c.box, c.Dp, c.hD, c.v8, c.kp, c.zD, c.part, c.ch.mono h⟩
/-- one part more -/
theorem Lp.more {q : Addr} (c : Lp K Z a ns p z bw D v L xs here σ H) (hq : H q = some (.tup s.vs)) (hs : Part v s) (hf : here ≤ s.f) : Lp K Z a ns p z bw D v (L ++ [s]) (xs ++ [.ref q]) (s.f + s.n) (σ.set 11 (some (.int ((s.f + s.n : Nat) : Int)))) (upd H D (.lst (xs ++ [.ref q]))) := by
  have st : Go Z [p, D] H (upd H D (.lst (xs ++ [.ref q]))) := Go.bendD c.ok c.hD (List.mem_cons_of_mem _ (List.mem_singleton.mpr rfl))
  have k1 := c.kp.go st
  have kq := kp_tup (Z := Z) (M := [p, D]) (by
    obtain ⟨gg, ss, b1, _⟩ := c.box
    exact Ls.cons b1 (Ls.one c.hD)) hq
  have k2 := kq.go st
  refine ⟨by rw [List.length_set]; exact c.len, sl_ne c.v0 (by decide), sl_ne c.v2 (by decide), sl_ne c.v3 (by decide), sl_ne c.v10 (by decide), sl_eq (by rw [c.len]; decide), sl_ne c.v19 (by decide), st.ok, ?_, c.Dp, upd_same, c.v8, ?_, c.zD, ?_, c.ch.snoc hf⟩
  · obtain ⟨gg, ss, b1, b2⟩ := c.box
    exact ⟨gg, ss, by rw [upd_ne (Ne.symm c.Dp)]; exact b1, b2⟩
  · exact (k1.and k2).imp fun H2 h => ⟨h.1.1, h.1.2.1, h.1.2.2.1, Paired.app h.1.2.2.2 (.cons ⟨q, rfl, h.2⟩ .nil)⟩
  · intro t ht
    rcases List.mem_append.mp ht with h | h
    · exact c.part t h
    · rw [List.mem_singleton.mp h]; exact hs
end
def B10 (K : PySem.W.Frag) (Z : Tx) (a : Addr) (ns : List Int) (m : Nat) (σ : L2.St) (H : Hp) : Prop := ∃ p z bw D v L xs here, Lp K Z a ns p z bw D v L xs here σ H ∧ L.length ≤ m ∧ here ≤ 4 * m
section
variable {P : Program} {w : World} {K : PySem.W.Frag} {mg : Str → Option Value} {base : Heap} {a fa : Addr} {ns : List Int} {cdv : Value} {s0 : Shared} {H0 : Hp} {Z : Tx}
variable {fSO fTake fPick : Addr} {dSO dTake dPick : FuncData}
theorem sl_all {v : List Int} (h : v.length = 8) : sl v (0, 2 ^ 3) = v := by
  show (v.drop 0).take 8 = v
  rw [List.drop_zero, ← h, List.take_length]
theorem ti_10 (hr : Room 9 (LX P w K mg base fa cdv s0 H0).A) (C1 : Cal P w K mg base "span_of" ["first", "values"] sSpanOf 6 (spSpanOf K Z) fSO dSO) : Ti (LX P w K mg base fa cdv s0 H0) (forS 10) (B4 K Z a ns) (fun _ => B10 K Z a ns 0) := by
  refine ⟨_, (ps_asg (pe_tup (pa_cons (pe_call C1.ok (hr.mono (by decide)) (by rfl) C1.ns.mg C1.ns.fn.kp C1.ns.bd .nil pass0 (pa_cons pe_int (pa_cons (pv 3) pa_nil))) (pa_cons (pe_lst pa_nil) (pa_cons pe_int pa_nil)))) (pg_seq rfl (pgs_cons (pg_name (i := 19) scLaw.nd rfl (.inr rfl)) (pgs_cons (pg_name (i := 10) scLaw.nd rfl (.inl rfl)) (pgs_cons (pg_name (i := 11) scLaw.nd rfl (.inl rfl)) pgs_nil))))), fun i D σ H hA k => ?_⟩
  obtain ⟨p, z, v, q, xs, L, s1, b1, s2, b2, c, vs, sp, o1, o2⟩ := hA
  have hv := vs.kp.now c.ok
  have vok : Vok v := by
    have := (Part.vok (a := 0) (i := 3) vs.v8 (by rw [vs.v8.1]; decide)).1
    rw [sl_all vs.v8.1] at this
    exact this
  refine ⟨.ref z, vs.sl, 0, z, v, rfl, SqL.of hv, vok, c.ok, fun bw H1 hbw g1 h1 => ⟨by show 0 ≤ sizeLine; decide, fun Dl hDl => ⟨by show 3 ≤ sizeLine; decide, fun t ht => ?_⟩⟩⟩
  have x2 := Ex.new hDl (o := .lst [])
  have x3 := Ex.new ht (o := .tup [V.ref bw, .ref Dl, .int 0])
  refine ⟨t, _, rfl, .inl (SqT.of upd_same), rfl, _, _, rfl, _, _, rfl, _, _, rfl, rfl, k _ _ ?_⟩
  have g1p : Go Z [p] H H1 := g1.of0
  have hb1 := c.box.go0 g1
  have c1 := c.go g1p hb1
  have vs1 := vs.go g1p
  have kbw := kp_tup (Z := Z) hb1.ls h1
  have kall := ((c1.scr.and vs1.kp).and kbw).add hDl (x2.trans x3)
  refine ⟨p, z, bw, Dl, v, [], [], 0, ⟨by rw [List.length_set, List.length_set, List.length_set]; exact c.len, sl_ne (sl_ne (sl_ne c.v0 (by decide)) (by decide)) (by decide), sl_ne (sl_ne (sl_ne c.v2 (by decide)) (by decide)) (by decide), sl_ne (sl_ne (sl_ne vs.sl (by decide)) (by decide)) (by decide), sl_ne (sl_eq (by rw [List.length_set, c.len]; decide)) (by decide), sl_eq (by rw [List.length_set, List.length_set, c.len]; decide), sl_ne (sl_ne (sl_eq (by rw [c.len]; decide)) (by decide)) (by decide),
    (c1.ok.ex x2).ex x3, (hb1.ex x2).ex x3, hb1.ne' hDl, x3 _ _ upd_same, vs.v8, kall.imp fun H2 h => ⟨h.1.1, h.1.2, h.2, .nil⟩, ⟨vs.zp, fun e => by have := vs1.kp.now c1.ok; rw [e, hDl] at this; cases this⟩, fun _ h => absurd h List.not_mem_nil, Nat.le_refl _⟩, Nat.le_refl _, Nat.le_refl _⟩
end
end K08
set_option Elab.async false
set_option linter.all false
set_option maxRecDepth 100000
set_option maxHeartbeats 4000000
namespace K08
open PySem PySem.Spec PyProof.Rows L2 GxR Pu Evl Sv
section
variable {P : Program} {w : World} {K : PySem.W.Frag} {mg : Str → Option Value} {base : Heap} {a fa : Addr} {ns : List Int} {cdv : Value} {s0 : Shared} {H0 : Hp} {Z : Tx}
variable {fSO fTake fPick : Addr} {dSO dTake dPick : FuncData}
theorem ti_11 (hr : Room 9 (LX P w K mg base fa cdv s0 H0).A) (G : Mg mg) (C1 : Cal P w K mg base "span_of" ["first", "values"] sSpanOf 6 (spSpanOf K Z) fSO dSO) (C2 : Cal P w K mg base "_law_take" ["_law_box_here", "_law_many"] sTake 1 spTake fTake dTake)
    (C3 : Cal P w K mg base "_law_pick" ["_law_box_here", "_law_some_here"] sPick 2 spPick fPick dPick) : Ti (LX P w K mg base fa cdv s0 H0) (forS 11) (fun _ => B10 K Z a ns 0) (fun _ => B10 K Z a ns 4) := by
  refine ⟨_, (ps_for PassesOwn.never rfl (pi_range1 (by rfl) G.range (pa_cons pe_int pa_nil)) (pg_name (i := 4) scLaw.nd rfl (.inl rfl))
    (pss_cons (ps_set (i := 11) scLaw.nd rfl (.inl rfl) (pe_op op_add (pv 11) (pe_call C2.ok (hr.mono (by decide)) (by rfl) C2.ns.mg C2.ns.fn.kp C2.ns.bd .nil pass0 (pa_cons (pv 2) (pa_cons pe_int pa_nil)))))
    (pss_cons (ps_set (i := 12) scLaw.nd rfl (.inl rfl) (pe_call C3.ok (hr.mono (by decide)) (by rfl) C3.ns.mg C3.ns.fn.kp C3.ns.bd .nil pass0 (pa_cons (pv 2) (pa_cons (pe_lst (pa_cons pe_int (pa_cons pe_int (pa_cons pe_int pa_nil)))) pa_nil))))
    (pss_one (ps_if (pt_cmpR op_le (pe_op op_add (pv 11) (pv 12)) pe_int (nomark _)) (pss_cons (ps_expr (pe_bm PySem.F.plainAttrs_list PySem.F.slot_list_append PySem.F.type_list_append mt_append (pv 10) (pa_cons (pe_call C1.ok (hr.mono (by decide)) (by rfl) C1.ns.mg C1.ns.fn.kp C1.ns.bd .nil pass0 (pa_cons (pv 11) (pa_cons (pe_slice sl_list (pv 3) (po_some (pv 11)) (po_some (pe_op op_add (pv 11) (pv 12)))) pa_nil))) pa_nil)))
        (pss_one (ps_set (i := 11) scLaw.nd rfl (.inl rfl) (pe_op op_add (pv 11) (pv 12))))) pss_nil))))), fun i D σ H hA k => ?_⟩
  refine s_forR1 (n := 4) (ea_cons ev_c ea_nil) ⟨by decide, by decide⟩ (fun m σ' H' => B10 K Z a ns m σ' H') (fun H1 e => ?_) (fun m σ' H' hm hP => ?_) (fun σ' H' hP => k _ _ hP)
  · obtain ⟨p, z, bw, Dl, v, L, xs, here, c, h1, h2⟩ := hA
    exact ⟨p, z, bw, Dl, v, L, xs, here, c.ex e, h1, h2⟩
  · obtain ⟨p, z, bw, Dl, v, L, xs, here, c0, h1, h2⟩ := hP
    have c := c0.set (i := 4) (u := some (.int (m : Int))) (.inl rfl)
    refine ⟨_, c.v11, .ref p, c.v2, p, 3, rfl, by decide, by decide, c.box, fun d H2 hd xb => ⟨_, _, rfl, rfl, ?_⟩⟩
    have g2 := Go.box c.ok c.box xb
    have c2 := (c.go g2 xb.1).here' (h' := here + d) (by omega)
    refine ⟨.ref p, c2.v2, by show 3 ≤ sizeLine; decide, fun l hl => ?_⟩
    have x3 := Ex.new hl (o := .lst [V.int 1, .int 1, .int 2])
    have c3 := c2.ex x3
    refine ⟨p, l, _, rfl, c3.box, upd_same, c2.box.ne' hl, by decide, by decide, fun mm H4 hmm xb4 => ?_⟩
    obtain ⟨j, hj, rfl⟩ : ∃ j : Nat, j ≤ 1 ∧ mm = .int ((2 ^ j : Nat) : Int) := by
      simp only [List.mem_cons, List.not_mem_nil, or_false] at hmm
      rcases hmm with rfl | rfl | rfl
      · exact ⟨0, by omega, rfl⟩
      · exact ⟨0, by omega, rfl⟩
      · exact ⟨1, by omega, rfl⟩
    have j2 : 2 ^ j ≤ 2 := by
      have : j = 0 ∨ j = 1 := by omega
      rcases this with rfl | rfl <;> decide
    have g4 := Go.box c3.ok c3.box xb4
    have c4 := (c3.go g4 xb4.1).set (i := 12) (u := some (.int ((2 ^ j : Nat) : Int))) (.inr rfl)
    have v12 : ((((σ'.set 4 (some (.int (m : Int)))).set 11 (some (.int ((here + d : Nat) : Int)))).set 12 (some (.int ((2 ^ j : Nat) : Int)))))[12]? = some (some (.int ((2 ^ j : Nat) : Int))) := sl_eq (by rw [List.length_set, List.length_set, c0.len]; decide)
    have ge : ∀ H5, Ev (tOp (rI0 fun i j => .int (i + j)) (tVar 11) (tVar 12)) (((σ'.set 4 (some (.int (m : Int)))).set 11 (some (.int ((here + d : Nat) : Int)))).set 12 (some (.int ((2 ^ j : Nat) : Int)))) H5 (.int (((here + d : Nat) : Int) + ((2 ^ j : Nat) : Int))) := fun H5 => ev_op (ev_var c4.v11) (ev_var v12) rv_I0
    have bt : EvT (tTest (tOp (rI0 fun i j => .bl (decide (i ≤ j))) (tOp (rI0 fun i j => .int (i + j)) (tVar 11) (tVar 12)) (tC (.int 8)))) (((σ'.set 4 (some (.int (m : Int)))).set 11 (some (.int ((here + d : Nat) : Int)))).set 12 (some (.int ((2 ^ j : Nat) : Int)))) H4 (decide ((((here + d : Nat) : Int) + ((2 ^ j : Nat) : Int)) ≤ 8)) := et_test (ev_op (ge H4) ev_c rv_I0)
    refine s_if bt (fun z5 H5 x5 => ?_) fun z5 H5 x5 => ?_
    · have fit : here + d + 2 ^ j ≤ 8 := by have := of_decide_eq_true z5; omega
      have c5 := c4.ex x5
      have hv5 := (Kp.now c5.kp c5.ok).2.1
      have hfit : here + d + 2 ^ j ≤ v.length := by rw [c5.v8.1]; exact fit
      obtain ⟨vok, vl⟩ := Part.vok c5.v8 hfit
      have el := el_sl (K := K) (te := tVar 3) (tl := tPart (tVar 11)) (th := tPart (tOp (rI0 fun i j => .int (i + j)) (tVar 11) (tVar 12))) (H := H5) (a := z) (xs := v.map V.int)
        (ev_var c5.v3) (eo_some (ev_var c5.v11)) (eo_some (ge H5)) (SqL.of hv5)
      rw [cut_sl hfit] at el
      have xl : L.length = xs.length := Paired.length (Kp.now c5.kp c5.ok).2.2.2
      refine ⟨.ref Dl, c5.v10, .inl ⟨rfl, _, SqL.of c5.hD⟩, _, c5.v11, el _ (Ex.refl _) _ fun q2 H6 hq2 x6 h6 => ⟨here + d, q2, _, rfl, SqL.of h6, vok, c5.ok.ex x6, fun q H7 hq g7 h7 => ?_⟩⟩
      have g57 : Go Z [p] H5 H7 := (Go.ex c5.ok x6).trans g7.of0
      have c7 := c5.go g57 ((c5.box.ex x6).go0 g7)
      have pt : Part v (spanOf (here + d) (sl v (here + d, 2 ^ j))) := ⟨here + d, j, hfit, rfl⟩
      refine ⟨Dl, xs, .ref q, rfl, rfl, c7.hD, Nat.lt_of_le_of_lt (show xs.length ≤ 10 by omega) (by decide), ?_⟩
      have c8 := c7.more h7 pt (Nat.le_refl _)
      have ev : ((here + d : Nat) : Int) + ((2 ^ j : Nat) : Int) = (((spanOf (here + d) (sl v (here + d, 2 ^ j))).f + (spanOf (here + d) (sl v (here + d, 2 ^ j))).n : Nat) : Int) := by
        show _ = (((here + d) + (sl v (here + d, 2 ^ j)).length : Nat) : Int)
        rw [vl]
        rfl
      refine s_asg (ev_is (ge _) (by rw [ev])) fun H9 x9 => ?_
      refine ⟨p, z, bw, Dl, v, _, _, _, c8.ex x9, by rw [List.length_append, List.length_singleton]; omega, ?_⟩
      show here + d + (sl v (here + d, 2 ^ j)).length ≤ _
      rw [vl]
      omega
    · exact ⟨p, z, bw, Dl, v, L, xs, here + d, c4.ex x5, by omega, by omega⟩
end
end K08
set_option Elab.async false
set_option linter.all false
set_option maxRecDepth 100000
set_option maxHeartbeats 4000000
namespace K08
open PySem PySem.Spec PyProof.Rows L2 GxR Pu Evl Sv
/-- the rows of spans, one behind another -/
def toldN (L : List S5) : List Nat := L.flatMap fun s => rgN s.f (s.f + s.n)
theorem rgN_split {a b c : Nat} (h1 : a ≤ b) (h2 : b ≤ c) : rgN a c = rgN a b ++ rgN b c := by
  unfold rgN
  obtain ⟨x, rfl⟩ : ∃ x, b = a + x := ⟨b - a, by omega⟩
  obtain ⟨y, rfl⟩ : ∃ y, c = a + x + y := ⟨c - (a + x), by omega⟩
  rw [show a + x + y - a = x + y by omega, show a + x - a = x by omega, show a + x + y - (a + x) = y by omega, List.range_add, List.map_append, List.map_map]
  congr 1
  refine List.map_congr_left fun i _ => ?_
  show a + (x + i) = a + x + i
  omega
theorem Ch.le : ∀ {L : List S5} {f e : Nat}, Ch f L e → f ≤ e
  | [], f, e, h => h
  | s :: r, f, e, h => by have := Ch.le h.2; have := h.1; omega
theorem Ch.told : ∀ {L : List S5} {f e r : Nat}, Ch f L e → r ∈ toldN L → f ≤ r ∧ r < e
  | [], f, e, r, h, m => absurd m List.not_mem_nil
  | s :: t, f, e, r, h, m => by
    unfold toldN at m
    rw [List.flatMap_cons, List.mem_append] at m
    have l := Ch.le h.2
    have l1 := h.1
    rcases m with m | m
    · have := rgN_mem.mp m
      omega
    · have := Ch.told h.2 (show r ∈ toldN t from m)
      omega
theorem rows_left {e : Nat} : ∀ {L : List S5} {f : Nat}, Ch f L e → rowsB e f L = (rgN f e).filter fun r => !decide (r ∈ toldN L)
  | [], f, h => by
    show rgN f e = _
    rw [List.filter_eq_self.mpr]
    intro r _
    rfl
  | s :: t, f, h => by
    have l := Ch.le h.2
    have l1 := h.1
    show rgN f s.f ++ rowsB e (s.f + s.n) t = _
    rw [rows_left h.2, rgN_split l1 (show s.f ≤ e by omega), rgN_split (show s.f ≤ s.f + s.n by omega) l, List.filter_append, List.filter_append]
    have m1 : ∀ r, r ∈ toldN (s :: t) ↔ (r ∈ rgN s.f (s.f + s.n) ∨ r ∈ toldN t) := fun r => by
      unfold toldN
      rw [List.flatMap_cons, List.mem_append]
    have a1 : (rgN f s.f).filter (fun r => !decide (r ∈ toldN (s :: t))) = rgN f s.f := by
      rw [List.filter_eq_self.mpr]
      intro r hr
      have h1 := rgN_mem.mp hr
      simp only [Bool.not_eq_true', decide_eq_false_iff_not, m1, rgN_mem]
      rintro (h2 | h2)
      · omega
      · have := Ch.told h.2 h2
        omega
    have a2 : (rgN s.f (s.f + s.n)).filter (fun r => !decide (r ∈ toldN (s :: t))) = [] := by
      rw [List.filter_eq_nil_iff]
      intro r hr
      simp [m1, hr]
    have a3 : (rgN (s.f + s.n) e).filter (fun r => !decide (r ∈ toldN (s :: t))) = (rgN (s.f + s.n) e).filter (fun r => !decide (r ∈ toldN t)) := by
      refine List.filter_congr fun r hr => ?_
      have h1 := rgN_mem.mp hr
      have : (r ∈ toldN (s :: t)) ↔ r ∈ toldN t := by
        rw [m1, rgN_mem]
        constructor
        · rintro (h2 | h2)
          · omega
          · exact h2
        · exact .inr
      simp [this]
    rw [a1, a2, a3, List.nil_append]
/-- the values of rows -/
def vsum (v : List Int) (rs : List Nat) : Int := (rs.map fun r => v.getD r 0).sum
theorem vsum_app (v : List Int) (a b : List Nat) : vsum v (a ++ b) = vsum v a + vsum v b := by
  unfold vsum
  rw [List.map_append, List.sum_append]
theorem sl_map {v : List Int} {a n : Nat} (h : a + n ≤ v.length) : sl v (a, n) = (rgN a (a + n)).map fun r => v.getD r 0 := by
  unfold sl rgN
  apply List.ext_getElem?
  intro i
  rw [show a + n - a = n by omega, List.map_map]
  by_cases hi : i < n
  · rw [List.getElem?_take_of_lt hi, List.getElem?_drop, List.getElem?_map, List.getElem?_range hi, List.getElem?_eq_getElem (show a + i < v.length by omega)]
    show _ = some (v.getD (a + i) 0)
    rw [List.getD_eq_getElem?_getD, List.getElem?_eq_getElem (show a + i < v.length by omega)]
    rfl
  · rw [List.getElem?_eq_none (by rw [List.length_take]; omega), List.getElem?_eq_none (by rw [List.length_map, List.length_range]; omega)]
theorem Part.w {v : List Int} {s : S5} (h : Part v s) : s.w = vsum v (rgN s.f (s.f + s.n)) := by
  obtain ⟨a, i, h1, rfl⟩ := h
  have hl : (sl v (a, 2 ^ i)).length = 2 ^ i := sl_len (p := (a, 2 ^ i)) h1
  show (sl v (a, 2 ^ i)).sum = vsum v (rgN a (a + (sl v (a, 2 ^ i)).length))
  rw [hl, sl_map h1]
  rfl
theorem sum_left {v : List Int} {e : Nat} : ∀ {L : List S5} {f : Nat}, Ch f L e → (∀ s ∈ L, Part v s) → vsum v (rowsB e f L) = vsum v (rgN f e) - (L.map (·.w)).sum
  | [], f, h, _ => by show vsum v (rgN f e) = _ - 0; omega
  | s :: t, f, h, hp => by
    have l := Ch.le h.2
    have l1 := h.1
    show vsum v (rgN f s.f ++ rowsB e (s.f + s.n) t) = _ - (s.w + (t.map (·.w)).sum)
    rw [vsum_app, sum_left h.2 fun x hx => hp x (List.mem_cons_of_mem _ hx), rgN_split l1 (show s.f ≤ e by omega), rgN_split (show s.f ≤ s.f + s.n by omega) l, vsum_app, vsum_app, Part.w (hp s (List.mem_cons_self ..))]
    omega
theorem vsum_all {v : List Int} (h : v.length = 8) : vsum v (rgN 0 8) = v.sum := by
  have := sl_map (v := v) (a := 0) (n := 8) (by omega)
  have e : sl v (0, 8) = v := by
    show (v.drop 0).take 8 = v
    rw [List.drop_zero, ← h, List.take_length]
  rw [e] at this
  unfold vsum
  rw [← this]
theorem Ch.parts : ∀ {L : List S5} {f : Nat}, Ch f L 8 → ∀ (i : Nat) (s o : S5), L[i]? = some s → L[i + 1]? = some o → s.f + s.n ≤ o.f
  | [], f, h, i, s, o, h1, h2 => by cases h1
  | [t], f, h, i, s, o, h1, h2 => by cases i <;> cases h2
  | t :: u :: r, f, h, 0, s, o, h1, h2 => by
    cases h1
    cases h2
    exact h.2.1
  | t :: u :: r, f, h, i + 1, s, o, h1, h2 => Ch.parts (f := t.f + t.n) h.2 i s o h1 h2
end K08
set_option Elab.async false
set_option linter.all false
set_option maxRecDepth 100000
set_option maxHeartbeats 4000000
namespace K08
open PySem PySem.Spec PyProof.Rows L2 GxR Pu Evl Sv
/-- the parts are laid; the list of them stays -/
structure Pc (K : PySem.W.Frag) (Z : Tx) (a : Addr) (ns : List Int) (p z bw D : Addr) (v : List Int) (L : List S5) (xs : List V) (σ : L2.St) (H : Hp) : Prop where
  len : σ.length = 22
  v0 : σ[0]? = some (some (.ref a))
  v2 : σ[2]? = some (some (.ref p))
  v3 : σ[3]? = some (some (.ref z))
  v10 : σ[10]? = some (some (.ref D))
  v19 : σ[19]? = some (some (.ref bw))
  ok : Z.Ok H
  box : BoxAt H p
  v8 : Val8 v
  kp : Kp Z [p] (fun H => SqL K H a (ns.map V.int) ∧ H z = some (.lst (v.map V.int)) ∧ H bw = some (.tup (spanOf 0 v).vs) ∧ H D = some (.lst xs) ∧ Paired (SpE K H) L xs) H
  part : ∀ s ∈ L, Part v s
  ch : Ch 0 L 8
  l4 : L.length ≤ 4
section
variable {K : PySem.W.Frag} {Z : Tx} {a p z bw D : Addr} {ns : List Int} {v : List Int} {xs : List V} {L : List S5} {s : S5} {here : Nat} {σ : L2.St} {H H' : Hp} {i j : Nat} {u : Option V}
theorem Pc.go (c : Pc K Z a ns p z bw D v L xs σ H) (g : Go Z [p] H H') (hb : BoxAt H' p) : Pc K Z a ns p z bw D v L xs σ H' := ⟨c.len, c.v0, c.v2, c.v3, c.v10, c.v19, g.ok, hb, c.v8, c.kp.go g, c.part, c.ch, c.l4⟩
theorem Pc.ex (c : Pc K Z a ns p z bw D v L xs σ H) (e : Ex H H') : Pc K Z a ns p z bw D v L xs σ H' := c.go (Go.ex c.ok e) (c.box.ex e)
theorem Pc.go0 (c : Pc K Z a ns p z bw D v L xs σ H) (g : Go Z [] H H') : Pc K Z a ns p z bw D v L xs σ H' := c.go g.of0 (c.box.go0 g)
theorem Pc.set (c : Pc K Z a ns p z bw D v L xs σ H) (h : i = 8 ∨ (13 ≤ i ∧ i ≤ 18)) : Pc K Z a ns p z bw D v L xs (σ.set i u) H :=
  ⟨by rw [List.length_set]; exact c.len, sl_ne c.v0 (by omega), sl_ne c.v2 (by omega), sl_ne c.v3 (by omega), sl_ne c.v10 (by omega), sl_ne c.v19 (by omega), c.ok, c.box, c.v8, c.kp, c.part, c.ch, c.l4⟩
theorem Lp.pc (c : Lp K Z a ns p z bw D v L xs here σ H) (h4 : L.length ≤ 4) : Pc K Z a ns p z bw D v L xs σ H := by
  have k1 := c.kp.mono (M := [p]) fun b hb => by rw [List.mem_singleton.mp hb]; exact List.mem_cons_self ..
  have k2 := kp_at (Z := Z) (M := [p]) (fun z => c.Dp (List.mem_singleton.mp z)) (fun ps z => by cases z) c.hD
  refine ⟨c.len, c.v0, c.v2, c.v3, c.v10, c.v19, c.ok, c.box, c.v8, (k1.and k2).imp fun H2 h => ⟨h.1.1, h.1.2.1, h.1.2.2.1, h.2, Paired.mapP h.1.2.2.2 fun _ _ ⟨b, e, h⟩ => ⟨b, e, .inl (SqT.of h)⟩⟩, c.part, c.ch.to (by omega) fun s hs => ((c.part s hs).ok c.v8).2, h4⟩
end
/-- told, left, due by what they hold -/
def leftN (L : List S5) : List Nat := (List.range 8).filter fun r => !decide (r ∈ toldN L)
def B13 (K : PySem.W.Frag) (Z : Tx) (a : Addr) (ns : List Int) (m : Nat) (σ : L2.St) (H : Hp) : Prop := ∃ p z bw D v L xs r, Pc K Z a ns p z bw D v L xs σ H ∧ σ[13]? = some (some (.ref r)) ∧ Kp Z [p] (fun H => H r = some (.lst (natsV (toldN (L.take m))))) H
def B14 (K : PySem.W.Frag) (Z : Tx) (a : Addr) (ns : List Int) (i : Nat) (σ : L2.St) (H : Hp) : Prop := ∃ p z bw D v L xs lf, Pc K Z a ns p z bw D v L xs σ H ∧ σ[15]? = some (some (.ref lf)) ∧ Kp Z [p] (fun H => H lf = some (.tup (natsV (leftN L)))) H
def B15 (K : PySem.W.Frag) (Z : Tx) (a : Addr) (ns : List Int) (i : Nat) (σ : L2.St) (H : Hp) : Prop := ∃ p z bw D v L xs lf du, Pc K Z a ns p z bw D v L xs σ H ∧ σ[8]? = some (some (.ref du)) ∧ Kp Z [p] (fun H => H lf = some (.tup (natsV (leftN L))) ∧ H du = some (.tup [.ref lf, .int (vsum v (leftN L))])) H
theorem kp_newx {Z : Tx} {p b : Addr} {o : HO} {Hx : Hp} (hbox : BoxAt Hx p) (n : Hx b = none) (m : ∀ ps, o ≠ .tbl ps) : Kp Z [p] (fun H => H b = some o) (upd Hx b o) := kp_at (fun z => (hbox.ne' n) (List.mem_singleton.mp z)) m upd_same
theorem kp_newe {Z : Tx} {p b : Addr} {o : HO} {Hx H' : Hp} (hbox : BoxAt Hx p) (n : Hx b = none) (e : H' b = some o) (m : ∀ ps, o ≠ .tbl ps) : Kp Z [p] (fun H => H b = some o) H' := kp_at (fun z => (hbox.ne' n) (List.mem_singleton.mp z)) m e
section
variable {P : Program} {w : World} {K : PySem.W.Frag} {mg : Str → Option Value} {base : Heap} {a fa : Addr} {ns : List Int} {cdv : Value} {s0 : Shared} {H0 : Hp} {Z : Tx}
variable {fLR : Addr} {dLR : FuncData}
theorem ti_12 : Ti (LX P w K mg base fa cdv s0 H0) (forS 12) (fun _ => B10 K Z a ns 4) (fun _ => B13 K Z a ns 0) := by
  refine ⟨_, (ps_set (i := 13) scLaw.nd rfl (.inr rfl) (pe_lst pa_nil)), fun i D σ H hA k => ?_⟩
  obtain ⟨p, z, bw, Dl, v, L, xs, here, c0, h1, h2⟩ := hA
  have c := c0.pc (by omega)
  refine ⟨by show 0 ≤ sizeLine; decide, fun r hr' => k _ _ ?_⟩
  have x1 := Ex.new hr' (o := .lst [])
  exact ⟨p, z, bw, Dl, v, L, xs, r, (c.ex x1).set (by omega), sl_eq (by rw [c.len]; decide), kp_newx c.box hr' fun ps z => by cases z⟩
theorem ti_13 (hr : Room 9 (LX P w K mg base fa cdv s0 H0).A) (C1 : Cal P w K mg base "_law_rows" ["_law_span"] sLRows 1 (spLRows K) fLR dLR) : Ti (LX P w K mg base fa cdv s0 H0) (forS 13) (fun _ => B13 K Z a ns 0) (fun _ σ H => ∃ m, B13 K Z a ns m σ H ∧ 4 ≤ m) := by
  refine ⟨_, (ps_for PassesOwn.never rfl (pi_seq (pv 10)) (pg_name (i := 14) scLaw.nd rfl (.inl rfl))
    (pss_one (ps_set (i := 13) scLaw.nd rfl (.inr rfl) (pe_op op_cat (pv 13) (pe_call C1.ok (hr.mono (by decide)) (by rfl) C1.ns.mg C1.ns.fn.kp C1.ns.bd .nil pass0 (pa_cons (pv 14) pa_nil)))))), fun i D σ H hA k => ?_⟩
  obtain ⟨p, z, bw, Dl, v, L, xs, r, c, h13, kr⟩ := hA
  have hk := c.kp.now c.ok
  have hxl : L.length = xs.length := Paired.length hk.2.2.2.2
  have l4 := c.l4
  refine ⟨.ref Dl, c.v10, Dl, xs, rfl, .inr (SqL.of hk.2.2.2.1), fun J Gd wk hG => for_it wk (fun m σ' H' => Ex H H' ∧ ∃ r, Pc K Z a ns p z bw Dl v L xs σ' H' ∧ σ'[13]? = some (some (.ref r)) ∧ Kp Z [p] (fun H => H r = some (.lst (natsV (toldN (L.take m))))) H')
    ⟨Ex.refl _, r, c, h13, kr⟩ (fun m σ' H' _ q => hG _ q.1) ?_ ?_⟩
  · intro m x σ' Ha Hb hm hPv hy
    obtain ⟨ex, r, c, h13, kr⟩ := hPv
    obtain ⟨rfl, hx⟩ := hy
    have hk := c.kp.now c.ok
    obtain ⟨s, hs, hps⟩ := Paired.atR hk.2.2.2.2 hx
    have ps := (c.part s (List.mem_of_getElem? hs)).ok c.v8
    have el : EvL (tCall (spLRows K) [] E0 (tCons (tVar 14) tNil)) (σ'.set 14 (some x)) Hb (natsV (rgN s.f (s.f + s.n))) := el_call (ea_cons (ev_var (sl_eq (by rw [c.len]; decide))) ea_nil) fun H1 e1 Q q E => ⟨s, x, rfl, hps.ex e1, by omega, fun p H' hp e2 h2 => q p H' hp e2 h2⟩
    have tk : L.take (m + 1) = L.take m ++ [s] := by rw [List.take_add_one, hs]; rfl
    refine ⟨.ref r, sl_ne h13 (by decide), el _ (Ex.refl _) _ fun q H3 hq x3 h3 => ⟨r, q, _, _, rfl, rfl, x3 _ _ (kr.now c.ok), h3, ?_, fun t ht => ?_⟩⟩
    · unfold natsV
      rw [List.length_map, List.length_map, rgN_len]
      have : (toldN (L.take m)).length ≤ 100 := by
        have h8 : ∀ r ∈ toldN (L.take m), r < 8 := fun r hr => by
          unfold toldN at hr
          obtain ⟨t, ht, hr2⟩ := List.mem_flatMap.mp hr
          have := ((c.part t (List.mem_of_mem_take ht)).ok c.v8).2
          have := rgN_mem.mp hr2
          omega
        have hsum : ∀ M : List S5, (∀ t ∈ M, t.f + t.n ≤ 8) → (toldN M).length ≤ 8 * M.length := by
          intro M
          induction M with
          | nil => intro _; exact Nat.le_refl _
          | cons t M ih =>
            intro hM
            unfold toldN at *
            rw [List.flatMap_cons, List.length_append, rgN_len, List.length_cons]
            have := hM t (List.mem_cons_self ..)
            have := ih fun y hy => hM y (List.mem_cons_of_mem _ hy)
            omega
        have := hsum (L.take m) fun t ht => ((c.part t (List.mem_of_mem_take ht)).ok c.v8).2
        rw [List.length_take] at this
        omega
      exact Nat.le_trans (show (toldN (L.take m)).length + (s.f + s.n - s.f) ≤ 1000 by omega) (by decide)
    · have x4 := Ex.new ht (o := .lst (natsV (toldN (L.take m)) ++ natsV (rgN s.f (s.f + s.n))))
      have e5 : natsV (toldN (L.take m)) ++ natsV (rgN s.f (s.f + s.n)) = natsV (toldN (L.take (m + 1))) := by
        rw [tk]
        unfold toldN natsV
        rw [List.flatMap_append, ← List.map_append]
        simp
      have c4 := (c.ex x3).ex x4
      refine ⟨(ex.trans x3).trans x4, t, (c4.set (i := 14) (by omega)).set (by omega), sl_eq (by rw [List.length_set, c.len]; decide), ?_⟩
      rw [← e5]
      exact kp_newx (c.ex x3).box ht fun ps z => by cases z
  · intro σ' H' hPv
    obtain ⟨ex, r, c, h13, kr⟩ := hPv
    refine k _ _ ⟨4, ⟨p, z, bw, Dl, v, L, xs, r, c, h13, ?_⟩, Nat.le_refl _⟩
    rw [← hxl, List.take_length] at kr
    rw [List.take_of_length_le l4]
    exact kr
end
end K08
set_option Elab.async false
set_option linter.all false
set_option maxRecDepth 100000
set_option maxHeartbeats 4000000
namespace K08
open PySem PySem.Spec PyProof.Rows L2 GxR Pu Evl Sv
section
variable {P : Program} {w : World} {K : PySem.W.Frag} {mg : Str → Option Value} {base : Heap} {a fa : Addr} {ns : List Int} {cdv : Value} {s0 : Shared} {H0 : Hp} {Z : Tx}
theorem ti_14 (G : Mg mg) : Ti (LX P w K mg base fa cdv s0 H0) (forS 14) (fun _ σ H => ∃ m, B13 K Z a ns m σ H ∧ 4 ≤ m) (B14 K Z a ns) := by
  refine ⟨_, (ps_set (i := 15) scLaw.nd rfl (.inl rfl) (pe_callTy (T := "tuple") call_tuple_of (by rfl) G.tuple (by decide +kernel) (pa_cons (pe_lc (own := [("_law_row", 20)]) (g := gName 20) (te := (tVar 20)) (tt := tTest (tOp (rIn K true) (tVar 20) (tVar 13))) (by rfl) scLaw.nd (pi_range1 (by rfl) G.range (pa_cons pe_int pa_nil)) (blkOk_by (own := [("_law_row", 20)]) (N := lawN) (sc := defScope sLaw) (by decide +kernel)) (fun _ _ _ _ _ => (pg_name (i := 20) scLaw.nd rfl (.inl rfl))) (fun _ _ _ _ _ => pts_one (pt_cmpR op_notIn_seq (pv 20) (pv 13) rfl)) (fun _ _ _ _ _ => (pv 20))) pa_nil))), fun i D σ H hA k => ?_⟩
  obtain ⟨m, ⟨p, z, bw, Dl, v, L, xs, r, c, h13, kr⟩, hm⟩ := hA
  have l4 := c.l4
  rw [List.take_of_length_le (by omega)] at kr
  have el := el_lcR1 (σ := σ) (H := H) (ta := tCons (tC (.int 8)) tNil) (j := 20) (vs := [20]) (n := 8) (t := tTest (tOp (rIn K true) (tVar 20) (tVar 13))) (te := tVar 20) (fun i => !decide (i ∈ toldN L)) (fun i => .int (i : Int)) (ea_cons ev_c ea_nil) ⟨by decide, by decide⟩ (fun x => wipe1)
    (fun i H1 e hi => by
      have := rv_inL (K := K) (neg := true) (x := .int (i : Int)) (SqL.of (e _ _ (kr.now c.ok)) : SqL K H1 r _) rfl (natsV_flat _)
      rw [inV_nat] at this
      exact et_test (ev_op (ev_var (wipe_at (by rw [c.len]; decide))) (ev_var (wipe_ne h13 (by decide))) this))
    (fun i H1 e hi _ => ev_var (wipe_at (by rw [c.len]; decide)))
  have e9 : given (8 : Int).toNat (fun i => !decide (i ∈ toldN L)) (fun i => V.int (i : Int)) = natsV (leftN L) := rfl
  rw [e9] at el
  refine s_asgU (eu_tupleL (K := K) el) fun t H2 ht x2 h2 => k _ _ ?_
  have c3 := c.ex x2
  exact ⟨p, z, bw, Dl, v, L, xs, t, c3.set (by omega), sl_eq (by rw [c.len]; decide), kp_newe c.box ht h2 fun ps z => by cases z⟩
theorem ti_15 (hr : Room 9 (LX P w K mg base fa cdv s0 H0).A) (G : Mg mg) : Ti (LX P w K mg base fa cdv s0 H0) (forS 15) (B14 K Z a ns) (B15 K Z a ns) := by
  refine ⟨_, (ps_set (i := 8) scLaw.nd rfl (.inl rfl) (pe_tup (pa_cons (pv 15) (pa_cons (pe_callB (cr_sum rfl) (by rfl) G.sum boot_sum (pa_cons (pe_lc (own := [("_law_row", 20)]) (g := gName 20) (te := (tOp (rIx K) (tVar 3) (tVar 20))) (by rfl) scLaw.nd (pi_seq (pv 15)) (blkOk_by (own := [("_law_row", 20)]) (N := lawN) (sc := defScope sLaw) (by decide +kernel)) (fun _ _ _ _ _ => (pg_name (i := 20) scLaw.nd rfl (.inl rfl))) (fun _ _ _ _ _ => pts_nil) (fun _ _ _ _ _ => (pe_ix ix_seq (pv 3) (pv 20) (fun _ _ => rfl)))) pa_nil)) pa_nil)))), fun i D σ H hA k => ?_⟩
  obtain ⟨p, z, bw, Dl, v, L, xs, lf, c, h15, kl⟩ := hA
  have hl := kl.now c.ok
  have l8 : (natsV (leftN L)).length ≤ 8 := by
    unfold natsV leftN
    rw [List.length_map]
    exact Nat.le_trans (List.length_filter_le _ _) (by simp)
  have el := el_lcA (K := K) (j := 20) (tl := tVar 15) (te := tOp (rIx K) (tVar 3) (tVar 20)) (σ := σ) (H := H) (xs := natsV (leftN L)) (fun i => .int (((leftN L).map fun r => v.getD r 0).getD i 0)) (Es.var h15 (.inl (SqT.of hl))) (by omega) (fun i x H' hx e' => by
    unfold natsV at hx
    rw [List.getElem?_map, Option.map_eq_some_iff] at hx
    obtain ⟨r, hr1, rfl⟩ := hx
    have r8 : r < v.length := by
      have := List.mem_of_getElem? hr1
      unfold leftN at this
      have := List.mem_range.mp (List.mem_filter.mp this).1
      rw [c.v8.1]
      exact this
    have e7 : ((leftN L).map fun r => v.getD r 0).getD i 0 = v.getD r 0 := by rw [List.getD_eq_getElem?_getD, List.getElem?_map, hr1]; rfl
    show Ev _ _ _ (.int (((leftN L).map fun r => v.getD r 0).getD i 0))
    rw [e7]
    refine ev_op (ev_var (sl_ne c.v3 (by decide))) (ev_var (sl_eq (by rw [c.len]; decide))) (rv_ixE (.inr (SqL.of (e' _ _ (c.kp.now c.ok).2.1))) (atI_nat ?_))
    rw [List.getElem?_map, List.getElem?_eq_getElem r8, List.getD_eq_getElem?_getD, List.getElem?_eq_getElem r8]
    rfl)
  have e8 : (List.range (natsV (leftN L)).length).map (fun i => V.int (((leftN L).map fun r => v.getD r 0).getD i 0)) = ((leftN L).map fun r => v.getD r 0).map V.int := by
    have e : (natsV (leftN L)).length = ((leftN L).map fun r => v.getD r 0).length := by unfold natsV; rw [List.length_map, List.length_map]
    rw [e]
    exact range_int _
  rw [e8] at el
  have eu : EvU (tTup (tCons (tVar 15) (tCons (tCB (rSum K) (tCons (tLc (iSeq K (tVar 15)) (gName 20) tYes (tOp (rIx K) (tVar 3) (tVar 20)) [20]) tNil)) tNil))) σ H [.ref lf, .int (vsum v (leftN L))] :=
    eu_tup (ea_cons (ev_var h15) (ea_cons (ev_cbL el fun p2 H5 h5 H6 e6 Q q => ⟨p2, _, rfl, SqL.of (e6 _ _ h5), q H6 (Ex.refl _)⟩) ea_nil)) (by show 2 ≤ 100000; decide)
  refine eu _ (Ex.refl _) _ fun t H2 ht x2 h2 => k _ _ ?_
  have c2 := c.ex x2
  exact ⟨p, z, bw, Dl, v, L, xs, lf, t, c2.set (.inl rfl), sl_eq (by rw [c.len]; decide), (kl.go (Go.ex c.ok x2)).and (kp_newe c.box ht h2 fun ps z => by cases z)⟩
end
end K08
set_option Elab.async false
set_option linter.all false
set_option maxRecDepth 100000
set_option maxHeartbeats 4000000
namespace Pu
open PySem PySem.Spec PyProof.Rows L2 GxR Evl
theorem Sm.intZ' {a : Int} (h : a.natAbs ≤ 1000000000) : Sm 0 0 (.int a) := by
  refine ⟨Nat.le_refl _, Nat.le_refl _, ?_, ?_, rfl⟩
  · show decide _ = true
    exact decide_eq_true (PyData.shown_int_le (Nat.lt_of_le_of_lt h (by decide)))
  · show decide _ = true
    refine decide_eq_true ?_
    exact Nat.lt_of_lt_of_le (PySem.Flt.log2_lt_of (by decide) (Nat.lt_of_le_of_lt h (by decide : 1000000000 < 2 ^ 40))) (by decide)
end Pu
namespace K08
open PySem PySem.Spec PyProof.Rows L2 GxR Pu Evl Sv
/-- a def that may refuse -/
structure CalX (P : Program) (w : World) (K : PySem.W.Frag) (mg : Str → Option Value) (base : Heap) (x : Str) (ps : List Str) (st : Stmt) (k : Nat) (sp : Sp) (f : Addr) (fd : FuncData) : Prop where
  ns : Fns K mg x ps st f fd
  ok : FnOk P w K mg base (L2.CX P w) k f fd ps sp
def dInts (cs : List Nat) : PyData := .tuple (cs.map fun (c : Nat) => PyData.int (c : Int))
def dDue (cs : List Nat) (S : Int) : PyData := .tuple [dInts cs, .int S]
theorem dp_due {K : PySem.W.Frag} {H : Hp} {a r : Addr} {cs : List Nat} {S : Int} (h : H a = some (.tup [.ref r, .int S])) (hr : H r = some (.tup (natsV cs))) : Dp K H (.ref a) (dDue cs S) := .tup (SqT.of h) (.cons (.tup (SqT.of hr) (dp_ints cs)) (.cons (.int S) .nil))
theorem sm_due {cs : List Nat} {S : Int} (h1 : ∀ c ∈ cs, c < 8) (h2 : cs.length ≤ 8) (h3 : S.natAbs ≤ 1000000000) : Sm 2 18 (dDue cs S) := by
  have a1 : Sm 1 8 (dInts cs) := Sm.tup (c := 8) (n := 0) (m := 0) (fun d hd => by
    obtain ⟨c, hc, rfl⟩ := List.mem_map.mp hd
    exact Sm.int (by have := h1 c hc; omega)) (by rw [List.length_map]; exact h2)
  exact Sm.tup (c := 2) (n := 1) (m := 8) (fun d hd => by
    rcases List.mem_cons.mp hd with rfl | hd
    · exact a1
    · rw [List.mem_singleton.mp hd]
      exact (Sm.intZ' h3).mono (by decide) (by decide)) (by show 2 ≤ 2; decide)
theorem vsum_le {v : List Int} : ∀ {rs : List Nat}, (∀ r ∈ rs, (v.getD r 0).natAbs ≤ 1000000) → (vsum v rs).natAbs ≤ rs.length * 1000000
  | [], _ => Nat.le_refl _
  | r :: rs, h => by
    have h1 := h r (List.mem_cons_self ..)
    have h2 := vsum_le (rs := rs) fun x hx => h x (List.mem_cons_of_mem _ hx)
    have e : vsum v (r :: rs) = v.getD r 0 + vsum v rs := rfl
    rw [e, List.length_cons]
    omega
theorem leftN_rows {L : List S5} (h : Ch 0 L 8) : rowsB 8 0 L = leftN L := by
  rw [rows_left h]
  rfl
theorem left_ok {v : List Int} {L : List S5} (h8 : Val8 v) : (∀ c ∈ leftN L, c < 8) ∧ (leftN L).length ≤ 8 ∧ (vsum v (leftN L)).natAbs ≤ 1000000000 := by
  have h1 : ∀ c ∈ leftN L, c < 8 := fun c hc => List.mem_range.mp (List.mem_filter.mp hc).1
  have h2 : (leftN L).length ≤ 8 := Nat.le_trans (List.length_filter_le _ _) (by simp)
  refine ⟨h1, h2, ?_⟩
  have := vsum_le (v := v) (rs := leftN L) fun r hr => by
    have l := h8.1
    have := h1 r hr
    rw [List.getD_eq_getElem?_getD, List.getElem?_eq_getElem (by omega)]
    have := h8.2 _ (List.getElem_mem (show r < v.length by omega))
    show (v[r]).natAbs ≤ _
    omega
  omega
section
variable {P : Program} {w : World} {K : PySem.W.Frag} {mg : Str → Option Value} {base : Heap} {a fa : Addr} {ns : List Int} {cdv : Value} {s0 : Shared} {H0 : Hp} {Z : Tx} {Cr : Addr}
variable {fRe : Addr} {dRe : FuncData}
theorem whole_ok {v : List Int} (h8 : Val8 v) : (spanOf 0 v).Ok ∧ (spanOf 0 v).f + (spanOf 0 v).n = 8 := by
  have h := (Part.vok (a := 0) (i := 3) h8 (by rw [h8.1]; decide)).1
  rw [sl_all h8.1] at h
  exact ⟨spanOf_ok h, by show 0 + v.length = 8; rw [h8.1]⟩
theorem parts_ok {v : List Int} {L : List S5} (h8 : Val8 v) (hc : Ch 0 L 8) (hp : ∀ s ∈ L, Part v s) : PartsP L (spanOf 0 v) := by
  refine ⟨fun s hs => ?_, hc.parts⟩
  have h1 := ((hp s hs).ok h8).2
  have h2 := (whole_ok h8).2
  unfold within
  rw [h2, decide_eq_true (show (spanOf 0 v).f ≤ s.f from Nat.zero_le _), decide_eq_true h1]
  rfl
theorem ti_16 (hr : Room 9 (LX P w K mg base fa cdv s0 H0).A) (G : Mg mg) (C1 : CalX P w K mg base "rest" ["span", "parts"] sRest 8 (spRest K Z Cr) fRe dRe) (W1 : KwOk K dRe ["span", "parts"] ["parts", "span"] (perm [1, 0]) (perm [1, 0])) :
    Ti (LX P w K mg base fa cdv s0 H0) (forS 16) (B15 K Z a ns) (B15 K Z a ns) := by
  have hu : (LX P w K mg base fa cdv s0 H0).A.units + 64 < cLine := hr.units
  have hg : (LX P w K mg base fa cdv s0 H0).A.guards = some [] := rfl
  refine ⟨_, (ps_if (pt_cmpR op_ne (pe_callB (cr_repr hu hg) (by rfl) G.repr boot_repr (pa_cons (pe_lst (pa_cons (pe_call C1.ok (hr.mono (by decide)) (by rfl) C1.ns.mg C1.ns.fn.kp C1.ns.bd .nil passL (pa_cons (pv 19) (pa_cons (pv 10) pa_nil))) (pa_cons (pe_callW C1.ok (hr.mono (by decide)) (by rfl) C1.ns.mg C1.ns.fn.kp W1 passL (pk_cons (pe_callTy (T := "tuple") call_tuple_of (by rfl) G.tuple (by decide +kernel) (pa_cons (pv 10) pa_nil)) (pk_cons (pe_callTy (T := "list") call_list_of (by rfl) G.list (by decide +kernel) (pa_cons (pv 19) pa_nil)) pk_nil))) pa_nil))) pa_nil)) (pe_callB (cr_repr hu hg) (by rfl) G.repr boot_repr (pa_cons (pe_lst (pa_cons (pv 8) (pa_cons (pv 8) pa_nil))) pa_nil)) (nomark _)) (pss_one (ps_ret pe_bl)) pss_nil), fun i D σ H hA k => ?_⟩
  obtain ⟨p, z, bw, Dl, v, L, xs, lf, du, c, h8, kd⟩ := hA
  have hk := c.kp.now c.ok
  have l4 := c.l4
  have ok : ∀ s ∈ L, s.Ok := fun s hs => ((c.part s hs).ok c.v8).1
  obtain ⟨wk, wb⟩ := whole_ok c.v8
  have pp := parts_ok c.v8 c.ch c.part
  have wS : (spanOf 0 v).w - (L.map (·.w)).sum = vsum v (leftN L) := by
    have := sum_left (v := v) c.ch c.part
    rw [leftN_rows c.ch, vsum_all c.v8.1] at this
    exact this.symm
  have rowsE : rowsB ((spanOf 0 v).f + (spanOf 0 v).n) (spanOf 0 v).f L = leftN L := by
    rw [wb]
    exact leftN_rows c.ch
  refine ⟨.ref bw, c.v19, .ref Dl, c.v10, .ref bw, .ref Dl, rfl, c.ok, .inr ⟨spanOf 0 v, ⟨bw, rfl, .inl (SqT.of hk.2.2.1)⟩, wk, by omega, .inr ⟨Dl, xs, L, rfl, .inr (SqL.of hk.2.2.2.1), hk.2.2.2.2, ok, by omega, .inr ⟨pp, fun p1 r1 H1 hp1 hr1 g1 h1r h1p => ?_⟩⟩⟩⟩
  rw [rowsE] at h1r
  rw [wS] at h1p
  have c1 := c.go0 g1
  have hk1 := c1.kp.now c1.ok
  refine ⟨.ref Dl, c.v10, Dl, _, rfl, .inl ⟨SqL.of hk1.2.2.2.1, fun t ht => ?_⟩⟩
  have x2 := Ex.new ht (o := .tup xs)
  refine ⟨.ref bw, c.v19, bw, _, rfl, .inr (SqT.of (x2 _ _ hk1.2.2.1)), fun t2 ht2 => ?_⟩
  have x3 := Ex.new ht2 (o := .lst (spanOf 0 v).vs)
  have x23 := x2.trans x3
  refine ⟨.ref t2, .ref t, rfl, (c1.ok.ex x2).ex x3, .inr ⟨spanOf 0 v, ⟨t2, rfl, .inr (SqL.of upd_same)⟩, wk, by omega, .inr ⟨t, xs, L, rfl, .inl (SqT.of (x3 _ _ upd_same)), Paired.mapP hk1.2.2.2.2 fun _ _ h => h.ex x23, ok, by omega, .inr ⟨pp, fun p2 r2 H4 hp2 hr2 g4 h4r h4p => ?_⟩⟩⟩⟩
  rw [rowsE] at h4r
  rw [wS] at h4p
  refine ⟨by show 2 ≤ sizeLine; decide, fun l hl => ?_⟩
  have x5 := Ex.new hl (o := .lst [V.ref p1, .ref p2])
  have keep : ∀ {b : Addr} {ys : List V}, H1 b = some (.tup ys) → (upd H4 l (.lst [V.ref p1, .ref p2])) b = some (.tup ys) := fun {b ys} h => x5 _ _ (g4.kp _ _ List.not_mem_nil (fun ps z => by cases z) (x23 _ _ h))
  obtain ⟨s1, s2, s3⟩ := left_ok (L := L) c.v8
  have dl : Dp K (upd H4 l (.lst [V.ref p1, .ref p2])) (.ref l) (.list [dDue (leftN L) (vsum v (leftN L)), dDue (leftN L) (vsum v (leftN L))]) :=
    .lst (SqL.of upd_same) (.cons (dp_due (keep h1p) (keep h1r)) (.cons (dp_due (x5 _ _ h4p) (x5 _ _ h4r)) .nil))
  have smd := Sm.two (sm_due s1 s2 s3) (sm_due s1 s2 s3)
  dsimp only [tNil]
  refine rc_repr dl rfl smd (by decide) (by decide) ?_
  have g5 : Go Z [] H (upd H4 l (.lst [V.ref p1, .ref p2])) := ((g1.then x23).trans g4).then x5
  have c5 := c.go0 g5
  have kd5 := (kd.go g5.of0).now g5.ok
  have rt := ev_reprL (K := K) (te := tLst (tCons (tVar 8) (tCons (tVar 8) tNil))) (σ := σ) (H := upd H4 l (.lst [V.ref p1, .ref p2])) (el_lst (ea_cons (ev_var h8) (ea_cons (ev_var h8) ea_nil)) (by show 2 ≤ 100000; decide))
    (fun q2 H6 e6 h6 => (.lst (SqL.of h6) (.cons (dp_due (e6 _ _ kd5.2) (e6 _ _ kd5.1)) (.cons (dp_due (e6 _ _ kd5.2) (e6 _ _ kd5.1)) .nil)) : Dp K H6 (.ref q2) (.list [dDue (leftN L) (vsum v (leftN L)), dDue (leftN L) (vsum v (leftN L))]))) rfl smd (by decide) (by decide)
  refine rt _ (Ex.refl _) _ fun H6 x6 => rv_neS _ (Ex.refl _) _ fun H7 x7 => ⟨false, rfl, ite2 (fun z => nomatch z) fun _ => k _ _ ?_⟩
  have x67 := x6.trans x7
  exact ⟨p, z, bw, Dl, v, L, xs, lf, du, c5.ex x67, h8, (kd.go g5.of0).go (Go.ex g5.ok x67)⟩
end
end K08
set_option Elab.async false
set_option linter.all false
set_option maxRecDepth 100000
set_option maxHeartbeats 4000000
namespace Pu
open PySem PySem.Spec PyProof.Rows L2 GxR Evl
theorem ch_ok (c : Char) : c.toNat < 0x110000 := by
  have := c.valid
  unfold UInt32.isValidChar Nat.isValidChar at this
  show c.val.toNat < _
  omega
theorem ok_str (s : String) : PyData.strOk (Str.ofString s) = true := by
  rw [Str.ofString_eq_toList]
  unfold PyData.strOk
  rw [List.all_toArray, List.all_eq_true]
  intro x hx
  obtain ⟨c, _, rfl⟩ := List.mem_map.mp hx
  exact decide_eq_true (ch_ok c)
theorem ok_app {a b : Str} (h : PyData.strOk a = true) (k : PyData.strOk b = true) : PyData.strOk (a ++ b) = true := by
  unfold PyData.strOk at *
  show (a.cps ++ b.cps).all _ = true
  rw [Array.all_append, h, k]
  rfl
theorem ok_from : ∀ (ts : List Str) (k : Nat) (acc : Str), PyData.strOk acc = true → (∀ t ∈ ts, PyData.strOk t = true) → PyData.strOk (textFrom k acc ts) = true
  | [], k, acc, h, _ => h
  | t :: r, k, acc, h, ht => ok_from r (k + 1) _ (ok_app (ok_app h (ok_str _)) (ht t (List.mem_cons_self ..))) fun x hx => ht x (List.mem_cons_of_mem _ hx)
theorem ok_join : ∀ ts : List Str, (∀ t ∈ ts, PyData.strOk t = true) → PyData.strOk (Str.join ", " ts) = true
  | [], _ => by decide +kernel
  | [x], h => h x (List.mem_cons_self ..)
  | x :: y :: r, h => by
    show PyData.strOk (x ++ ", " ++ Str.join ", " (y :: r)) = true
    exact ok_app (ok_app (h x (List.mem_cons_self ..)) (ok_str _)) (ok_join (y :: r) fun t ht => h t (List.mem_cons_of_mem _ ht))
mutual
def noStr : PyData → Bool
  | .none | .bool _ | .int _ => true
  | .list xs | .tuple xs => noStrs xs
  | _ => false
def noStrs : List PyData → Bool
  | [] => true
  | x :: xs => noStr x && noStrs xs
end
mutual
theorem ok_shown : ∀ d : PyData, noStr d = true → PyData.strOk d.shown = true
  | .none, _ => ok_str "None"
  | .bool b, _ => by cases b <;> exact ok_str _
  | .int i, _ => ok_str _
  | .list xs, h => ok_app (ok_from _ 0 "[" (ok_str _) (ok_shownAll xs h)) (ok_str _)
  | .tuple xs, h => ok_app (ok_app (ok_str _) (ok_join _ (ok_shownAll xs h))) (ok_str _)
  | .str _, h => nomatch h
  | .dict _, h => nomatch h
theorem ok_shownAll : ∀ ds : List PyData, noStrs ds = true → ∀ t ∈ PyData.shownAll ds, PyData.strOk t = true
  | [], _, t, ht => absurd ht List.not_mem_nil
  | d :: ds, h, t, ht => by
    have h' : (noStr d && noStrs ds) = true := h
    rcases List.mem_cons.mp ht with rfl | ht
    · exact ok_shown d (Bool.and_eq_true_iff.mp h').1
    · exact ok_shownAll ds (Bool.and_eq_true_iff.mp h').2 t ht
end
def dRef (s : Str) : PyData := .tuple [.str "refused", .str s, .bool true]
theorem dRef_lay {s : Str} (h : PyData.strOk s = true) : PyData.canLay0 (dRef s) = true := by
  unfold dRef
  simp only [PyData.canLay0, PyData.canLayAll0, h, Bool.and_true]
  exact ok_str _
theorem dRef_shaped {s : Str} (h : PyData.strOk s = true) : SeqAt.shaped (dRef s) = true := by
  have h2 : PyData.depth (dRef s) = 1 := by
    unfold dRef
    simp [PyData.depth, PyData.depthAll]
  unfold SeqAt.shaped
  rw [dRef_lay h, h2]
  rfl
theorem dRef_eqv {s : Str} (h : PyData.strOk s = true) : PyData.eqv (dRef s) (dRef s) = true := SeqAt.eqv_refl_plain _ (PyData.plain_of_canLay0 _ (dRef_lay h))
theorem lam_pass {X : Cx} {A : Around} {outer : List Env} {s : Shared} {H : Hp} {E : XK} {scope : Scope} {f c' : Addr} : Passes (L2.CX X.prog X.w) (LamX.lamCx X A outer s H E scope f c') E :=
  passes_call (takes_of (X := LamX.lamCx X A outer s H E scope f c') rfl rfl rfl rfl) fun _ _ _ _ h => h
end Pu
set_option Elab.async false
set_option linter.all false
set_option maxRecDepth 100000
set_option maxHeartbeats 4000000
namespace K08
open PySem PySem.Spec PyProof.Rows L2 GxR Pu Evl Sv
def dS5 (s : S5) : PyData := .tuple [.int (s.f : Int), .int (s.n : Int), .int s.w, .int s.lo, .int s.hi]
def Sml (s : S5) : Prop := s.f ≤ 1000000 ∧ s.n ≤ 1000000 ∧ s.w.natAbs ≤ 1000000000 ∧ s.lo.natAbs ≤ 1000000000 ∧ s.hi.natAbs ≤ 1000000000
theorem sm_S5 {s : S5} (h : Sml s) : Sm 1 5 (dS5 s) := Sm.tup (c := 5) (n := 0) (m := 0) (fun d hd => by
  simp only [List.mem_cons, List.not_mem_nil, or_false] at hd
  rcases hd with rfl | rfl | rfl | rfl | rfl
  · exact Sm.int h.1
  · exact Sm.int h.2.1
  · exact Sm.intZ' h.2.2.1
  · exact Sm.intZ' h.2.2.2.1
  · exact Sm.intZ' h.2.2.2.2) (by show 5 ≤ 5; decide)
theorem dp_S5 {K : PySem.W.Frag} {H : Hp} {s : S5} {v : V} (h : SpE K H s v) : Dp K H v (dS5 s) ∨ ∃ b, v = .ref b ∧ SqL K H b s.vs := by
  obtain ⟨b, rfl, q | q⟩ := h
  · exact .inl (.tup q (.cons (.int _) (.cons (.int _) (.cons (.int _) (.cons (.int _) (.cons (.int _) .nil))))))
  · exact .inr ⟨b, rfl, q⟩
theorem dp_T {K : PySem.W.Frag} {H : Hp} {s : S5} {b : Addr} (h : H b = some (.tup s.vs)) : Dp K H (.ref b) (dS5 s) := .tup (SqT.of h) (.cons (.int _) (.cons (.int _) (.cons (.int _) (.cons (.int _) (.cons (.int _) .nil)))))
theorem shown_of {K : PySem.W.Frag} {H : Hp} {v : V} {d : PyData} {n m : Nat} (h : Dp K H v d) (hd : isDisplay d = true) (s : Sm n m d) (hn : n ≤ 60) (hm : m ≤ 1000000) : Shown K H v d.shown := .inr ⟨d, h, hd, s.sh, s.nd, s.d60 hn, s.len hm, rfl⟩
/-- a lot of spans, each a tuple -/
theorem shown_L {K : PySem.W.Frag} {H : Hp} {L : List S5} {xs : List V} {r : Addr} (hr : H r = some (.lst xs)) (h : Paired (fun s v => SpT s v H) L xs) (hs : ∀ s ∈ L, Sml s) (hl : L.length ≤ 2) : Shown K H (.ref r) (PyData.list (L.map dS5)).shown := by
  have da : DpAll K H xs (L.map dS5) := by
    clear hr hs hl
    induction h with
    | nil => exact .nil
    | cons a b ih =>
      obtain ⟨q, rfl, h⟩ := a
      exact .cons (dp_T h) ih
  refine shown_of (n := 2) (m := 2 * 6) (.lst (SqL.of hr) da) rfl (Sm.lst (n := 1) (m := 5) (c := 2) (fun d hd => ?_) (by rw [List.length_map]; exact hl)) (by decide) (by decide)
  obtain ⟨s, hs', rfl⟩ := List.mem_map.mp hd
  exact sm_S5 (hs s hs')
theorem noStr_L : ∀ L : List S5, noStr (.list (L.map dS5)) = true
  | [] => rfl
  | s :: L => by
    show (noStr (dS5 s) && noStrs (L.map dS5)) = true
    have := noStr_L L
    rw [show noStrs (L.map dS5) = true from this]
    rfl
/-- no parts of the whole -/
def BadP (K : PySem.W.Frag) (v : List Int) (u : V) (H : Hp) : Prop := AreS K H u false ∨ ∃ (e : Addr) (xs : List V) (L : List S5), u = .ref e ∧ SqE K H e xs ∧ Paired (SpE K H) L xs ∧ (∀ s ∈ L, s.Ok) ∧ L.length ≤ 50 ∧ ¬ PartsP L (spanOf 0 v)
def OddK (K : PySem.W.Frag) (Z : Tx) (p : Addr) (v : List Int) (u : V) (H : Hp) : Prop := ∃ s, PyData.strOk s = true ∧ Kp Z [p] (fun H => Shown K H u s ∧ BadP K v u H) H
theorem OddK.go {K : PySem.W.Frag} {Z : Tx} {p : Addr} {v : List Int} {u : V} {H H' : Hp} (h : OddK K Z p v u H) (g : Go Z [p] H H') : OddK K Z p v u H' := by
  obtain ⟨s, o, k⟩ := h
  exact ⟨s, o, k.go g⟩
theorem odd_flat {K : PySem.W.Frag} {Z : Tx} {p : Addr} {v : List Int} {u : V} {H : Hp} {s : Str} (h : flatV u = true) (h1 : shownS u = some s) (h2 : okS u = true) (o : PyData.strOk s = true) : OddK K Z p v u H := ⟨s, o, fun _ _ => ⟨.inl ⟨h1, h2⟩, .inl (.no h)⟩⟩
theorem odd_L {K : PySem.W.Frag} {Z : Tx} {p : Addr} {v : List Int} {H : Hp} {L : List S5} {xs : List V} {r : Addr} (k : Kp Z [p] (fun H => H r = some (.lst xs) ∧ Paired (fun s v => SpT s v H) L xs) H) (hs : ∀ s ∈ L, Sml s ∧ s.Ok) (hl : L.length ≤ 2) (np : ¬ PartsP L (spanOf 0 v)) : OddK K Z p v (.ref r) H :=
  ⟨_, ok_shown _ (noStr_L L), k.imp fun H2 h => ⟨shown_L h.1 h.2 (fun s hs' => (hs s hs').1) hl, .inr ⟨r, xs, L, rfl, .inr (SqL.of h.1), Paired.mapP h.2 fun _ _ ⟨b, e, h⟩ => ⟨b, e, .inl (SqT.of h)⟩, fun s hs' => (hs s hs').2, by omega, np⟩⟩⟩
def B17 (K : PySem.W.Frag) (Z : Tx) (a : Addr) (ns : List Int) (i : Nat) (σ : L2.St) (H : Hp) : Prop := ∃ p z bw D v L xs l ys, Pc K Z a ns p z bw D v L xs σ H ∧ σ[16]? = some (some (.ref l)) ∧ l ≠ p ∧ Kp Z [p] (fun H => H l = some (.lst ys)) H ∧ 1 ≤ ys.length ∧ ys.length ≤ 1000 ∧ ∀ u ∈ ys, OddK K Z p v u H
def B18 (K : PySem.W.Frag) (Z : Tx) (a : Addr) (ns : List Int) (i : Nat) (σ : L2.St) (H : Hp) : Prop := ∃ p z bw D v L xs u, Pc K Z a ns p z bw D v L xs σ H ∧ σ[18]? = some (some u) ∧ OddK K Z p v u H
section
variable {P : Program} {w : World} {K : PySem.W.Frag} {mg : Str → Option Value} {base : Heap} {a fa : Addr} {ns : List Int} {cdv : Value} {s0 : Shared} {H0 : Hp} {Z : Tx}
variable {fPick : Addr} {dPick : FuncData}
theorem ti_18 (hr : Room 9 (LX P w K mg base fa cdv s0 H0).A) (C1 : Cal P w K mg base "_law_pick" ["_law_box_here", "_law_some_here"] sPick 2 spPick fPick dPick) : Ti (LX P w K mg base fa cdv s0 H0) (forS 18) (B17 K Z a ns) (B18 K Z a ns) := by
  refine ⟨_, (ps_set (i := 18) scLaw.nd rfl (.inr rfl) (pe_call C1.ok (hr.mono (by decide)) (by rfl) C1.ns.mg C1.ns.fn.kp C1.ns.bd .nil pass0 (pa_cons (pv 2) (pa_cons (pv 16) pa_nil)))), fun i D σ H hA k => ?_⟩
  obtain ⟨p, z, bw, Dl, v, L, xs, l, ys, c, h16, lp, kl, l1, l2, od⟩ := hA
  refine ⟨.ref p, c.v2, .ref l, h16, p, l, ys, rfl, c.box, kl.now c.ok, lp, l1, l2, fun u H' hu xb => k _ _ ?_⟩
  have g := Go.box c.ok c.box xb
  exact ⟨p, z, bw, Dl, v, L, xs, u, (c.go g xb.1).set (by omega), sl_eq (by rw [c.len]; decide), (od u hu).go g⟩
end
end K08
set_option Elab.async false
set_option linter.all false
set_option maxRecDepth 100000
set_option maxHeartbeats 4000000
namespace K08
open PySem PySem.Spec PyProof.Rows L2 GxR Pu Evl Sv
section
variable {P : Program} {w : World} {K : PySem.W.Frag} {mg : Str → Option Value} {base : Heap} {a fa cl Cr CF fI : Addr} {ns : List Int} {s0 : Shared} {H0 : Hp} {Z : Tx}
variable {fRe fRf : Addr} {dRe dRf : FuncData}
theorem ti_19 (hr : Room 10 (LX P w K mg base fa (.ref cl) s0 H0).A) (G : Mg mg) (C1 : CalX P w K mg base "rest" ["span", "parts"] sRest 8 (spRest K Z Cr) fRe dRe) (FR : Fun K "_law_refused" "_law_refused" sLRefused fRf dRf) (mR : mg "_law_refused" = some (.ref fRf)) (bR : Binds K dRf ["_law_ask"] [])
    (RC : RefC K Cr fI) (mC : mg "Refused" = some (.ref Cr)) (mF : mg "FarError" = some (.ref CF)) (kit : PySem.W.kitOne K (.ref Cr) (.ref CF) = some true) (exm : PySem.W.exmOne K (.ref Cr) (.ref Cr) = some true)
    (TL : LamX.TabB base mg cl Z.p) (np : Z.p ∉ Z.ts) (hq : (LX P w K mg base fa (.ref cl) s0 H0).env.qual ++ "<lambda>" = Z.q) : Ti (LX P w K mg base fa (.ref cl) s0 H0) (forS 19) (B18 K Z a ns) (B18 K Z a ns) := by
  have hu : (LX P w K mg base fa (.ref cl) s0 H0).A.units + 64 < cLine := (hr.mono (show 9 ≤ 10 by decide)).units
  have hun : (LX P w K mg base fa (.ref cl) s0 H0).A.units + 200 < cLine := by have := hr.un; omega
  have hg : (LX P w K mg base fa (.ref cl) s0 H0).A.guards = some [] := rfl
  refine ⟨_, (ps_if (pt_cmpR (op_neD hu) (pe_lm (k := 8) (t := fun E => tCall (spRest K Z Cr) [] E (tCons (tVar 19) (tCons (tVar 18) tNil))) FR (by rfl) mR bR scRefused rfl (.inl rfl) (fun cdv => ok_refused RC G rfl hun mC mF kit exm) TL rfl hq hr (LamX.lamS_by (by (show LamX.lamSB (defScope sLaw) _ = true); decide +kernel)) (by rfl) (fun _ _ _ _ _ => by rfl) (fun A outer s H E f c' hr' => pe_call C1.ok hr' (by rfl) C1.ns.mg C1.ns.fn.kp C1.ns.bd .nil (lam_pass (X := LX P w K mg base fa (.ref cl) s0 H0)) (pa_cons (pv 19) (pa_cons (pv 18) pa_nil)))) (pe_tup (pa_cons pe_str (pa_cons (pe_callB (cr_reprS hu hg) (by rfl) G.repr boot_repr (pa_cons (pv 18) pa_nil)) (pa_cons pe_bl pa_nil)))) (nomark _)) (pss_one (ps_ret pe_bl)) pss_nil), fun i D σ H hA k => ?_⟩
  obtain ⟨p, z, bw, Dl, v, L, xs, u, c, h18, s, so, ks⟩ := hA
  obtain ⟨wk, wb⟩ := whole_ok c.v8
  refine ⟨c.ok.lm, fun H1 ex t1 => ?_⟩
  have g0 : Go Z [] H H1 := Go.lam c.ok np ex t1
  have c1 := c.go0 g0
  have k1 := ks.go g0.of0
  have bad := (k1.now c1.ok).2
  refine ⟨.ref bw, c.v19, u, h18, .ref bw, u, rfl, c1.ok, .inr ⟨spanOf 0 v, ⟨bw, rfl, .inl (SqT.of (c1.kp.now c1.ok).2.2.1)⟩, wk, by omega, ?_⟩⟩
  refine (fun (fin : ∀ d H', Go Z [] H1 H' → H' d = none → _) => bad.elim (fun h => .inl ⟨h, fin⟩) (fun ⟨e, xs', L', h1, h2, h3, h4, h5, h6⟩ => .inr ⟨e, xs', L', h1, h2, h3, h4, h5, .inl ⟨h6, fin⟩⟩)) (fun d H' g hd => ?_)
  have x1 := Ex.new hd (o := .xd [("at", u)])
  have g1 : Go Z [] H (upd H' d (.xd [("at", u)])) := (g0.trans g).then x1
  refine ⟨d, u, s, rfl, rfl, upd_same, ((ks.go g1.of0).now g1.ok).1, fun t ht => ?_⟩
  have x2 := Ex.new ht (o := .tup [V.str "refused", .str s, .bl true])
  have g2 := g1.then x2
  refine ⟨u, h18, u, s, rfl, ((ks.go g2.of0).now g2.ok).1, by show 3 ≤ sizeLine; decide, fun t2 ht2 => ?_⟩
  have x3 := Ex.new ht2 (o := .tup [V.str "refused", .str s, .bl true])
  have g3 := g2.then x3
  have dp : ∀ {H9 : Hp} {b : Addr}, H9 b = some (.tup [V.str "refused", .str s, .bl true]) → Dp K H9 (.ref b) (dRef s) := fun h => .tup (SqT.of h) (.cons (.str _) (.cons (.str _) (.cons (.bl _) .nil)))
  refine ⟨dRef s, dRef s, dp (x3 _ _ upd_same), dp upd_same, dRef_shaped so, dRef_shaped so, false, by rw [dRef_eqv so]; rfl, ite2 (fun z => nomatch z) fun _ => k _ _ ?_⟩
  exact ⟨p, z, bw, Dl, v, L, xs, u, c.go0 g3, h18, s, so, ks.go g3.of0⟩
end
end K08
set_option Elab.async false
set_option linter.all false
set_option maxRecDepth 100000
set_option maxHeartbeats 4000000
namespace K08
open PySem PySem.Spec PyProof.Rows L2 GxR Pu Evl Sv
def w8 : S5 := ⟨8, 1, 0, 0, 0⟩
def w3 : S5 := ⟨3, 1, 0, 0, 0⟩
def w2 : S5 := ⟨2, 1, 0, 0, 0⟩
def w22 : S5 := ⟨2, 2, 0, 0, 0⟩
theorem w_ok : (Sml w8 ∧ w8.Ok) ∧ (Sml w3 ∧ w3.Ok) ∧ (Sml w2 ∧ w2.Ok) ∧ (Sml w22 ∧ w22.Ok) := by
  refine ⟨⟨?_, ?_⟩, ⟨?_, ?_⟩, ⟨?_, ?_⟩, ⟨?_, ?_⟩⟩ <;> first | exact ⟨by decide, by decide, by decide, by decide, by decide⟩ | exact ⟨by decide, by decide +kernel⟩
theorem whole_sml {v : List Int} (h8 : Val8 v) : Sml (spanOf 0 v) := by
  have hl := h8.1
  have ne : v ≠ [] := fun z => by rw [z] at hl; cases hl
  have b1 := h8.2 _ (lmin_spec ne).1
  have b2 := h8.2 _ (lmax_spec ne).1
  have g1 := sum_ge (lo := -1000000) (xs := v) fun y hy => (h8.2 y hy).1
  have g2 := sum_le (hi := 1000000) (xs := v) fun y hy => (h8.2 y hy).2
  rw [hl] at g1 g2
  refine ⟨Nat.zero_le _, by show v.length ≤ _; omega, ?_, ?_, ?_⟩
  · show (v.sum).natAbs ≤ _
    omega
  · show (lmin v).natAbs ≤ _
    omega
  · show (lmax v).natAbs ≤ _
    omega
section
variable {P : Program} {w : World} {K : PySem.W.Frag} {mg : Str → Option Value} {base : Heap} {a fa : Addr} {ns : List Int} {cdv : Value} {s0 : Shared} {H0 : Hp} {Z : Tx}
theorem ti_17 : Ti (LX P w K mg base fa cdv s0 H0) (forS 17) (B15 K Z a ns) (B17 K Z a ns) := by
  refine ⟨_, (ps_set (i := 16) scLaw.nd rfl (.inl rfl) (pe_lst (pa_cons pe_non (pa_cons pe_int (pa_cons (pe_lst (pa_cons pe_non pa_nil)) (pa_cons (pe_lst (pa_cons (pe_tup (pa_cons pe_int (pa_cons pe_int (pa_cons pe_int (pa_cons pe_int (pa_cons pe_int pa_nil)))))) pa_nil)) (pa_cons (pe_lst (pa_cons (pv 19) (pa_cons (pv 19) pa_nil))) (pa_cons (pe_lst (pa_cons (pe_tup (pa_cons pe_int (pa_cons pe_int (pa_cons pe_int (pa_cons pe_int (pa_cons pe_int pa_nil)))))) (pa_cons (pe_tup (pa_cons pe_int (pa_cons pe_int (pa_cons pe_int (pa_cons pe_int (pa_cons pe_int pa_nil)))))) pa_nil))) (pa_cons (pe_lst (pa_cons (pe_tup (pa_cons pe_int (pa_cons pe_int (pa_cons pe_int (pa_cons pe_int (pa_cons pe_int pa_nil)))))) (pa_cons (pe_tup (pa_cons pe_int (pa_cons pe_int (pa_cons pe_int (pa_cons pe_int (pa_cons pe_int pa_nil)))))) pa_nil))) (pa_cons pe_str pa_nil)))))))))), fun i D σ H hA k => ?_⟩
  obtain ⟨p, z, bw, Dl, v, L, xs, lf, du, c, h8, kd⟩ := hA
  obtain ⟨wk, wb⟩ := whole_ok c.v8
  obtain ⟨o8, o3, o2, o22⟩ := w_ok
  refine ⟨by show 1 ≤ sizeLine; decide, fun r3 hr3 => ⟨by show 5 ≤ sizeLine; decide, fun t1 ht1 => ⟨by show 1 ≤ sizeLine; decide, fun r4 hr4 => ⟨.ref bw, c.v19, .ref bw, c.v19, by show 2 ≤ sizeLine; decide, fun r5 hr5 => ?_⟩⟩⟩⟩
  refine ⟨by show 5 ≤ sizeLine; decide, fun t2 ht2 => ⟨by show 5 ≤ sizeLine; decide, fun t3 ht3 => ⟨by show 2 ≤ sizeLine; decide, fun r6 hr6 => ?_⟩⟩⟩
  refine ⟨by show 5 ≤ sizeLine; decide, fun t4 ht4 => ⟨by show 5 ≤ sizeLine; decide, fun t5 ht5 => ⟨by show 2 ≤ sizeLine; decide, fun r7 hr7 => ⟨by show 8 ≤ sizeLine; decide, fun l hl => k _ _ ?_⟩⟩⟩⟩
  have x1 := Ex.new hr3 (o := .lst [V.non])
  have x2 := Ex.new ht1 (o := .tup [V.int 8, .int 1, .int 0, .int 0, .int 0])
  have x3 := Ex.new hr4 (o := .lst [V.ref t1])
  have x4 := Ex.new hr5 (o := .lst [V.ref bw, .ref bw])
  have x5 := Ex.new ht2 (o := .tup [V.int 3, .int 1, .int 0, .int 0, .int 0])
  have x6 := Ex.new ht3 (o := .tup [V.int 2, .int 1, .int 0, .int 0, .int 0])
  have x7 := Ex.new hr6 (o := .lst [V.ref t2, .ref t3])
  have x8 := Ex.new ht4 (o := .tup [V.int 2, .int 2, .int 0, .int 0, .int 0])
  have x9 := Ex.new ht5 (o := .tup [V.int 3, .int 1, .int 0, .int 0, .int 0])
  have x10 := Ex.new hr7 (o := .lst [V.ref t4, .ref t5])
  have x11 := Ex.new hl (o := .lst [V.non, .int 5, .ref r3, .ref r4, .ref r5, .ref r6, .ref r7, .str "parts"])
  have y10 := x10.trans x11
  have y9 := x9.trans y10
  have y8 := x8.trans y9
  have y7 := x7.trans y8
  have y6 := x6.trans y7
  have y5 := x5.trans y6
  have y4 := x4.trans y5
  have y3 := x3.trans y4
  have y2 := x2.trans y3
  have b1 := c.box.ex x1
  have b2 := b1.ex x2
  have b3 := b2.ex x3
  have b4 := b3.ex x4
  have b5 := b4.ex x5
  have b6 := b5.ex x6
  have b7 := b6.ex x7
  have b8 := b7.ex x8
  have b9 := b8.ex x9
  have b10 := b9.ex x10
  have c11 := (c.ex (x1.trans y2))
  have kw : Kp Z [p] (fun H => H bw = some (.tup (spanOf 0 v).vs)) _ := c11.kp.imp fun H2 h => h.2.2.1
  have k3 := kp_newe (Z := Z) c.box hr3 (y2 _ _ upd_same) (fun ps z => by cases z)
  have kt1 := kp_newe (Z := Z) b1 ht1 (y3 _ _ upd_same) (fun ps z => by cases z)
  have k4 := kp_newe (Z := Z) b2 hr4 (y4 _ _ upd_same) (fun ps z => by cases z)
  have k5 := kp_newe (Z := Z) b3 hr5 (y5 _ _ upd_same) (fun ps z => by cases z)
  have kt2 := kp_newe (Z := Z) b4 ht2 (y6 _ _ upd_same) (fun ps z => by cases z)
  have kt3 := kp_newe (Z := Z) b5 ht3 (y7 _ _ upd_same) (fun ps z => by cases z)
  have k6 := kp_newe (Z := Z) b6 hr6 (y8 _ _ upd_same) (fun ps z => by cases z)
  have kt4 := kp_newe (Z := Z) b7 ht4 (y9 _ _ upd_same) (fun ps z => by cases z)
  have kt5 := kp_newe (Z := Z) b8 ht5 (y10 _ _ upd_same) (fun ps z => by cases z)
  have k7 := kp_newe (Z := Z) b9 hr7 (x11 _ _ upd_same) (fun ps z => by cases z)
  refine ⟨p, z, bw, Dl, v, L, xs, l, _, c11.set (by omega), sl_eq (by rw [c.len]; decide), b10.ne' hl, kp_newx b10 hl (fun ps z => by cases z), by show 1 ≤ 8; decide, by show 8 ≤ 1000; decide, fun u hu => ?_⟩
  simp only [List.mem_cons, List.not_mem_nil, or_false] at hu
  rcases hu with rfl | rfl | rfl | rfl | rfl | rfl | rfl | rfl
  · exact odd_flat (s := "None") rfl rfl rfl (ok_str _)
  · exact odd_flat (s := Str.ofString (toString (5 : Int))) rfl rfl (by decide) (ok_str _)
  · refine ⟨(PyData.list [.none]).shown, ok_shown _ rfl, k3.imp fun H2 h => ⟨shown_of (.lst (SqL.of h) (.cons .non .nil)) rfl (Sm.lst (n := 0) (m := 0) (c := 1) (fun d hd => by rw [List.mem_singleton.mp hd]; exact Sm.none) (by decide)) (by decide) (by decide), .inl (AreS.seq (bs := [false]) (.inr (SqL.of h)) (.cons (.no rfl) .nil))⟩⟩
  · refine odd_L (L := [w8]) ((k4.and kt1).imp fun H2 h => ⟨h.1, .cons ⟨t1, rfl, h.2⟩ .nil⟩) (fun s hs => by rw [List.mem_singleton.mp hs]; exact o8) (by decide) fun np => ?_
    have h9 := np.1 w8 (List.mem_cons_self ..)
    unfold within at h9
    rw [wb] at h9
    exact absurd (of_decide_eq_true (Bool.and_eq_true_iff.mp h9).2) (by decide)
  · refine odd_L (L := [spanOf 0 v, spanOf 0 v]) ((k5.and kw).imp fun H2 h => ⟨h.1, .cons ⟨bw, rfl, h.2⟩ (.cons ⟨bw, rfl, h.2⟩ .nil)⟩) (fun s hs => by
      simp only [List.mem_cons, List.not_mem_nil, or_false, or_self] at hs
      rw [hs]
      exact ⟨whole_sml c.v8, wk⟩) (by show 2 ≤ 2; decide) fun np => ?_
    have h9 := np.2 0 _ _ rfl rfl
    rw [wb] at h9
    have : (spanOf 0 v).f = 0 := rfl
    omega
  · refine odd_L (L := [w3, w2]) (((k6.and kt2).and kt3).imp fun H2 h => ⟨h.1.1, .cons ⟨t2, rfl, h.1.2⟩ (.cons ⟨t3, rfl, h.2⟩ .nil)⟩) (fun s hs => by
      simp only [List.mem_cons, List.not_mem_nil, or_false] at hs
      rcases hs with rfl | rfl
      · exact o3
      · exact o2) (by decide) fun np => ?_
    have h9 := np.2 0 w3 w2 rfl rfl
    revert h9
    decide
  · refine odd_L (L := [w22, w3]) (((k7.and kt4).and kt5).imp fun H2 h => ⟨h.1.1, .cons ⟨t4, rfl, h.1.2⟩ (.cons ⟨t5, rfl, h.2⟩ .nil)⟩) (fun s hs => by
      simp only [List.mem_cons, List.not_mem_nil, or_false] at hs
      rcases hs with rfl | rfl
      · exact o22
      · exact o3) (by decide) fun np => ?_
    have h9 := np.2 0 w22 w3 rfl rfl
    revert h9
    decide
  · exact odd_flat (s := reprText "parts") rfl rfl (by decide +kernel) (by decide +kernel)
end
end K08
set_option Elab.async false
set_option linter.all false
set_option maxRecDepth 100000
set_option maxHeartbeats 4000000
namespace K08
open PySem PySem.Spec PyProof.Rows L2 GxR Pu Evl Sv
/-- a value that is no span -/
def NonK (K : PySem.W.Frag) (Z : Tx) (p : Addr) (u : V) (H : Hp) : Prop := ∃ s, PyData.strOk s = true ∧ Kp Z [p] (fun H => Shown K H u s ∧ SpanH K H u false) H
def B20 (K : PySem.W.Frag) (Z : Tx) (a : Addr) (ns : List Int) (i : Nat) (σ : L2.St) (H : Hp) : Prop := ∃ p z bw D v L xs u o, Pc K Z a ns p z bw D v L xs σ H ∧ σ[17]? = some (some u) ∧ σ[18]? = some (some o) ∧ NonK K Z p u H
def B21 (K : PySem.W.Frag) (Z : Tx) (a : Addr) (ns : List Int) (i : Nat) (σ : L2.St) (H : Hp) : Prop := ∃ p, σ.length = 22 ∧ σ[0]? = some (some (.ref a)) ∧ Z.Ok H ∧ Kp Z [p] (fun H => SqL K H a (ns.map V.int)) H
section
variable {P : Program} {w : World} {K : PySem.W.Frag} {mg : Str → Option Value} {base : Heap} {a fa cl Cr CF fI : Addr} {ns : List Int} {cdv : Value} {s0 : Shared} {H0 : Hp} {Z : Tx}
variable {fRe fRf fPick : Addr} {dRe dRf dPick : FuncData}
theorem ti_20 (hr : Room 9 (LX P w K mg base fa cdv s0 H0).A) (C1 : Cal P w K mg base "_law_pick" ["_law_box_here", "_law_some_here"] sPick 2 spPick fPick dPick) : Ti (LX P w K mg base fa cdv s0 H0) (forS 20) (B18 K Z a ns) (B20 K Z a ns) := by
  refine ⟨_, (ps_set (i := 17) scLaw.nd rfl (.inr rfl) (pe_call C1.ok (hr.mono (by decide)) (by rfl) C1.ns.mg C1.ns.fn.kp C1.ns.bd .nil pass0 (pa_cons (pv 2) (pa_cons (pe_lst (pa_cons pe_non (pa_cons (pe_slice sl_tup (pv 19) po_none (po_some pe_int)) (pa_cons (pe_tup (pa_cons pe_int (pa_cons pe_int (pa_cons pe_int (pa_cons pe_int (pa_cons pe_int pa_nil)))))) (pa_cons (pe_tup (pa_cons pe_int (pa_cons pe_int (pa_cons pe_int (pa_cons pe_int (pa_cons pe_int pa_nil)))))) pa_nil))))) pa_nil)))), fun i D σ H hA k => ?_⟩
  obtain ⟨p, z, bw, Dl, v, L, xs, od, c, h18, sod, so, ks⟩ := hA
  have hw := (c.kp.now c.ok).2.2.1
  have nw : ¬ (HT.sIx (spanOf 0 v).vs.length 0 none = 0 ∧ HT.sIx (spanOf 0 v).vs.length (spanOf 0 v).vs.length (some 4) = (spanOf 0 v).vs.length) := fun h => absurd h.2 (by show ¬ HT.sIx 5 5 (some 4) = 5; decide)
  have ec : cutV (spanOf 0 v).vs none (some 4) = [.int (((spanOf 0 v).f : Nat) : Int), .int (((spanOf 0 v).n : Nat) : Int), .int (spanOf 0 v).w, .int (spanOf 0 v).lo] := rfl
  refine ⟨.ref p, c.v2, .ref bw, c.v19, 4, rfl, bw, (spanOf 0 v).vs, rfl, SqT.of hw, nw, fun t ht => ?_⟩
  have x1 := Ex.new ht (o := .tup (cutV (spanOf 0 v).vs none (some 4)))
  refine ⟨by show 5 ≤ sizeLine; decide, fun t2 ht2 => ⟨by show 5 ≤ sizeLine; decide, fun t3 ht3 => ⟨by show 4 ≤ sizeLine; decide, fun l hl => ?_⟩⟩⟩
  have x2 := Ex.new ht2 (o := .tup [V.int 0, .int 3, .int 0, .int 0, .int 0])
  have x3 := Ex.new ht3 (o := .tup [V.int 0, .int 2, .int 9, .int 0, .int 1])
  have x4 := Ex.new hl (o := .lst [V.non, .ref t, .ref t2, .ref t3])
  have b1 := c.box.ex x1
  have b2 := b1.ex x2
  have b3 := b2.ex x3
  have c4 := c.ex (((x1.trans x2).trans x3).trans x4)
  refine ⟨p, l, _, rfl, c4.box, upd_same, b3.ne' hl, by show 1 ≤ 4; decide, by show 4 ≤ 1000; decide, fun u H' hu xb => k _ _ ?_⟩
  have g := Go.box c4.ok c4.box xb
  have kt := kp_new (Z := Z) c.box ht ((x2.trans x3).trans x4) xb (fun ps z => by cases z)
  have kt2 := kp_new (Z := Z) b1 ht2 (x3.trans x4) xb (fun ps z => by cases z)
  have kt3 := kp_new (Z := Z) b2 ht3 x4 xb (fun ps z => by cases z)
  have sml := whole_sml c.v8
  refine ⟨p, z, bw, Dl, v, L, xs, u, od, (c4.go g xb.1).set (by omega), sl_eq (by rw [c.len]; decide), sl_ne h18 (by decide), ?_⟩
  simp only [List.mem_cons, List.not_mem_nil, or_false] at hu
  have five : ∀ {b : Addr} {f n w lo hi : Int} {H2 : Hp}, H2 b = some (.tup [.int f, .int n, .int w, .int lo, .int hi]) → n ≤ 1000000 → SpanH K H2 (.ref b) (spanB (.int f) (.int n) (.int w) (.int lo) (.int hi)) := fun {b f n w lo hi H2} h hn => SpanH.five (.inl (SqT.of h)) (fun x hx => by
      simp only [List.mem_cons, List.not_mem_nil, or_false] at hx
      rcases hx with rfl | rfl | rfl | rfl | rfl <;> rfl) (fun n e => by cases e; exact hn)
  rcases hu with rfl | rfl | rfl | rfl
  · exact ⟨"None", ok_str _, fun _ _ => ⟨.inl ⟨rfl, rfl⟩, .no rfl⟩⟩
  · refine ⟨(PyData.tuple [.int (((spanOf 0 v).f : Nat) : Int), .int (((spanOf 0 v).n : Nat) : Int), .int (spanOf 0 v).w, .int (spanOf 0 v).lo]).shown, ok_shown _ rfl, kt.imp fun H2 h => ⟨?_, .few (.inl (SqT.of h)) (by rw [ec]; show 4 ≠ 5; decide)⟩⟩
    rw [ec] at h
    refine shown_of (n := 1) (m := 4) (.tup (SqT.of h) (.cons (.int _) (.cons (.int _) (.cons (.int _) (.cons (.int _) .nil))))) rfl (Sm.tup (n := 0) (m := 0) (c := 4) (fun d hd => ?_) (by show 4 ≤ 4; decide)) (by decide) (by decide)
    simp only [List.mem_cons, List.not_mem_nil, or_false] at hd
    rcases hd with rfl | rfl | rfl | rfl
    · exact Sm.int sml.1
    · exact Sm.int sml.2.1
    · exact Sm.intZ' sml.2.2.1
    · exact Sm.intZ' sml.2.2.2.1
  · exact ⟨(dS5 ⟨0, 3, 0, 0, 0⟩).shown, ok_shown _ rfl, kt2.imp fun H2 h => ⟨shown_of (dp_T (s := ⟨0, 3, 0, 0, 0⟩) h) rfl (sm_S5 ⟨by decide, by decide, by decide, by decide, by decide⟩) (by decide) (by decide), five h (by decide)⟩⟩
  · exact ⟨(dS5 ⟨0, 2, 9, 0, 1⟩).shown, ok_shown _ rfl, kt3.imp fun H2 h => ⟨shown_of (dp_T (s := ⟨0, 2, 9, 0, 1⟩) h) rfl (sm_S5 ⟨by decide, by decide, by decide, by decide, by decide⟩) (by decide) (by decide), five h (by decide)⟩⟩
theorem ti_21 (hr : Room 10 (LX P w K mg base fa (.ref cl) s0 H0).A) (G : Mg mg) (C1 : CalX P w K mg base "rest" ["span", "parts"] sRest 8 (spRest K Z Cr) fRe dRe) (FR : Fun K "_law_refused" "_law_refused" sLRefused fRf dRf) (mR : mg "_law_refused" = some (.ref fRf)) (bR : Binds K dRf ["_law_ask"] [])
    (RC : RefC K Cr fI) (mC : mg "Refused" = some (.ref Cr)) (mF : mg "FarError" = some (.ref CF)) (kit : PySem.W.kitOne K (.ref Cr) (.ref CF) = some true) (exm : PySem.W.exmOne K (.ref Cr) (.ref Cr) = some true)
    (TL : LamX.TabB base mg cl Z.p) (np : Z.p ∉ Z.ts) (hq : (LX P w K mg base fa (.ref cl) s0 H0).env.qual ++ "<lambda>" = Z.q) : Ti (LX P w K mg base fa (.ref cl) s0 H0) (forS 21) (B20 K Z a ns) (B21 K Z a ns) := by
  have hu : (LX P w K mg base fa (.ref cl) s0 H0).A.units + 64 < cLine := (hr.mono (show 9 ≤ 10 by decide)).units
  have hun : (LX P w K mg base fa (.ref cl) s0 H0).A.units + 200 < cLine := by have := hr.un; omega
  have hg : (LX P w K mg base fa (.ref cl) s0 H0).A.guards = some [] := rfl
  refine ⟨_, (ps_if (pt_cmpR (op_neD hu) (pe_lm (k := 8) (t := fun E => tCall (spRest K Z Cr) [] E (tCons (tVar 17) (tCons (tVar 18) tNil))) FR (by rfl) mR bR scRefused rfl (.inl rfl) (fun cdv => ok_refused RC G rfl hun mC mF kit exm) TL rfl hq hr (LamX.lamS_by (by (show LamX.lamSB (defScope sLaw) _ = true); decide +kernel)) (by rfl) (fun _ _ _ _ _ => by rfl) (fun A outer s H E f c' hr' => pe_call C1.ok hr' (by rfl) C1.ns.mg C1.ns.fn.kp C1.ns.bd .nil (lam_pass (X := LX P w K mg base fa (.ref cl) s0 H0)) (pa_cons (pv 17) (pa_cons (pv 18) pa_nil)))) (pe_tup (pa_cons pe_str (pa_cons (pe_callB (cr_reprS hu hg) (by rfl) G.repr boot_repr (pa_cons (pv 17) pa_nil)) (pa_cons pe_bl pa_nil)))) (nomark _)) (pss_one (ps_ret pe_bl)) pss_nil), fun i D σ H hA k => ?_⟩
  obtain ⟨p, z, bw, Dl, v, L, xs, u, o, c, h17, h18, s, so, ks⟩ := hA
  refine ⟨c.ok.lm, fun H1 ex t1 => ?_⟩
  have g0 : Go Z [] H H1 := Go.lam c.ok np ex t1
  have c1 := c.go0 g0
  have k1 := ks.go g0.of0
  refine ⟨u, h17, o, h18, u, o, rfl, c1.ok, .inl ⟨(k1.now c1.ok).2, fun d H' g hd => ?_⟩⟩
  have x1 := Ex.new hd (o := .xd [("at", u)])
  have g1 : Go Z [] H (upd H' d (.xd [("at", u)])) := (g0.trans g).then x1
  refine ⟨d, u, s, rfl, rfl, upd_same, ((ks.go g1.of0).now g1.ok).1, fun t ht => ?_⟩
  have x2 := Ex.new ht (o := .tup [V.str "refused", .str s, .bl true])
  have g2 := g1.then x2
  refine ⟨u, h17, u, s, rfl, ((ks.go g2.of0).now g2.ok).1, by show 3 ≤ sizeLine; decide, fun t2 ht2 => ?_⟩
  have x3 := Ex.new ht2 (o := .tup [V.str "refused", .str s, .bl true])
  have g3 := g2.then x3
  have dp : ∀ {H9 : Hp} {b : Addr}, H9 b = some (.tup [V.str "refused", .str s, .bl true]) → Dp K H9 (.ref b) (dRef s) := fun h => .tup (SqT.of h) (.cons (.str _) (.cons (.str _) (.cons (.bl _) .nil)))
  refine ⟨dRef s, dRef s, dp (x3 _ _ upd_same), dp upd_same, dRef_shaped so, dRef_shaped so, false, by rw [dRef_eqv so]; rfl, ite2 (fun z => nomatch z) fun _ => k _ _ ?_⟩
  have c3 := c.go0 g3
  exact ⟨p, c3.len, c3.v0, c3.ok, c3.kp.imp fun H2 h => h.1⟩
end
end K08
set_option Elab.async false
set_option linter.all false
set_option maxRecDepth 100000
set_option maxHeartbeats 4000000
namespace K08
open PySem PySem.Spec PyProof.Rows L2 GxR Pu Evl
def Fx (K : PySem.W.Frag) (mg : Str → Option Value) (x : Str) (ps : List Str) (st : Stmt) : Prop := ∃ f fd, Fns K mg x ps st f fd
def Fk (K : PySem.W.Frag) (mg : Str → Option Value) (x : Str) (ps : List Str) (st : Stmt) (ks : List Str) (is : List Nat) : Prop := ∃ f fd, Fns K mg x ps st f fd ∧ KwOk K fd ps ks (perm is) (perm is)
/-- a def of the text -/
def DefIn (K : PySem.W.Frag) (x : Str) (st : Stmt) : Prop := ∃ (f : Addr) (oc : Value) (od : Option Addr) (kV doc pm : Value) (an : Option Addr) (cd ct : Value) (sl : Array (Option Value)),
  PySem.W.nsIn K mainGlobals x = some (some (.ref f)) ∧ K.lookup f = some ⟨oc, od, .func (PySem.W.fnOf x x (defArgs st) (defBody st) (defScope st) .none kV doc pm an cd ct), sl⟩ ∧ PySem.W.codeIn K cd x = true ∧ PySem.W.keepIn K (.ref f) = true
section
variable {K : PySem.W.Frag} {h : Heap} {mg : Str → Option Value}
theorem DefIn.fx {x : Str} {ps : List Str} {st : Stmt} (X : K.In h) (G : h.Ns mainGlobals mg) (D : DefIn K x st)
    (hb : ∀ (kV doc pm : Value) (an : Option Addr) (cdv ct : Value) (us : List Value), us.length = ps.length → bindArgs (PySem.W.fnOf x x (defArgs st) (defBody st) (defScope st) .none kV doc pm an cdv ct) ⟨us, []⟩ = pure (ps.zip us)) : Fx K mg x ps st := by
  obtain ⟨f, oc, od, kV, doc, pm, an, cd, ct, sl, h1, h2, h3, h4⟩ := D
  exact ⟨f, _, fun_mk h2 h3 h4, (fun_mk h2 h3 h4).binds hb, PySem.W.mg_of X G h1⟩
theorem DefIn.fk {x : Str} {ps ks : List Str} {is : List Nat} {st : Stmt} (X : K.In h) (G : h.Ns mainGlobals mg) (D : DefIn K x st)
    (hb : ∀ (kV doc pm : Value) (an : Option Addr) (cdv ct : Value) (us : List Value), us.length = ps.length → bindArgs (PySem.W.fnOf x x (defArgs st) (defBody st) (defScope st) .none kV doc pm an cdv ct) ⟨us, []⟩ = pure (ps.zip us))
    (hk : ∀ (kV doc pm : Value) (an : Option Addr) (cdv ct : Value) (ws : List Value), ws.length = is.length → bindArgs (PySem.W.fnOf x x (defArgs st) (defBody st) (defScope st) .none kV doc pm an cdv ct) ⟨[], ks.zip ws⟩ = pure (ps.zip (perm is ws))) (hn : 0 < ps.length) : Fk K mg x ps st ks is := by
  obtain ⟨f, oc, od, kV, doc, pm, an, cd, ct, sl, h1, h2, h3, h4⟩ := D
  exact ⟨f, _, ⟨fun_mk h2 h3 h4, (fun_mk h2 h3 h4).binds hb, PySem.W.mg_of X G h1⟩, kwOk (fun ws hl => hk _ _ _ _ _ _ ws hl) hn⟩
end
theorem DefIn.mk {K : PySem.W.Frag} {x : Str} {st : Stmt} {f : Addr} {oc : Value} {od : Option Addr} {kV doc pm : Value} {an : Option Addr} {cd ct : Value} {sl : Array (Option Value)}
    (h1 : PySem.W.nsIn K mainGlobals x = some (some (.ref f))) (h2 : K.lookup f = some ⟨oc, od, .func (PySem.W.fnOf x x (defArgs st) (defBody st) (defScope st) .none kV doc pm an cd ct), sl⟩) (h3 : PySem.W.codeIn K cd x = true) (h4 : PySem.W.keepIn K (.ref f) = true) : DefIn K x st :=
  ⟨f, oc, od, kV, doc, pm, an, cd, ct, sl, h1, h2, h3, h4⟩
theorem tab_mk {K : PySem.W.Frag} {x : Str} {f c T : Addr} {oc cc : Value} {od oe : Option Addr} {fd : FuncData} {vs : Array Value} {sl sm : Array (Option Value)} (h1 : PySem.W.nsIn K mainGlobals x = some (some (.ref f))) (h2 : K.lookup f = some ⟨oc, od, .func fd, sl⟩) (hc : fd.code = .ref c)
    (h3 : K.lookup c = some ⟨cc, oe, .fields vs, sm⟩) (h4 : (vs[11]? : Option Value) = some (.ref T)) : PySem.W.tabIn K x = some (c, T) := by
  unfold PySem.W.tabIn
  rw [h1]
  show (match K.lookup f with
    | some ⟨_, _, .func fd, _⟩ => _
    | _ => none) = _
  rw [h2]
  show (match fd.code with
    | .ref c => _
    | _ => none) = _
  rw [hc]
  show (match K.lookup c with
    | some ⟨_, _, .fields vs, _⟩ => _
    | _ => none) = _
  rw [h3]
  show (match (vs[11]? : Option Value) with
    | some (.ref P) => some (c, P)
    | _ => none) = _
  rw [h4]
theorem cst_mk {K : PySem.W.Frag} {x : Str} {v : V} {u : Value} (h : PySem.W.nsIn K mainGlobals x = some (some u)) (r : RelV v u) : ∃ u, PySem.W.nsIn K mainGlobals x = some (some u) ∧ RelV v u := ⟨u, h, r⟩
theorem oex_mk {K : PySem.W.Frag} {C : Addr} {nm : _} {q : _} {N : _} {bs : _} {bm : _} {sn : _} {sub : _} {ab : _} {col : _} {dd : _} {k0 : _} {k1 : _} {k2 : _} {k3 : _} {k5 : _} (h : K.lookup C = some (excClassObj nm q C N bs bm true sn sub ab col dd k0 k1 k2 k3 k5 "ValueError.__new__")) (r : PySem.HandSPX.refsVE bm = true)
    (sa : PySem.W.findIn K (.ref C) "__setattr__" = some (some (.builtin "object.__setattr__"))) (ex : PySem.W.subIn K (.ref C) (.type "BaseException") = some true) (ty : PySem.W.typeIn K (.ref C) = some (.type "type")) (k : PySem.W.keepIn K (.ref C) = true) : OexC K C :=
  ⟨⟨_, _, _, _, _, _, _, _, _, _, _, _, _, _, _, h, r⟩, sa, ex, ty, k⟩
/-- the class of the errors of values, and the one under it -/
def ClsIn (K : PySem.W.Frag) : Prop := ∃ (Cr CF fI : Addr) (dI : FuncData), RefC K Cr fI ∧ Fun K "__init__" "Refused.__init__" sInit fI dI ∧ Binds K dI ["self", "at"] [] ∧ PySem.W.nsIn K mainGlobals "Refused" = some (some (.ref Cr)) ∧ PySem.W.nsIn K mainGlobals "FarError" = some (some (.ref CF)) ∧
  PySem.W.kitOne K (.ref Cr) (.ref CF) = some true ∧ PySem.W.exmOne K (.ref Cr) (.ref Cr) = some true
theorem ClsIn.mk {K : PySem.W.Frag} {Cr CF fI : Addr} {nm : _} {q : _} {N : _} {bs : _} {bm : _} {sn : _} {sub : _} {ab : _} {col : _} {dd : _} {k0 : _} {k1 : _} {k2 : _} {k3 : _} {k5 : _} {oc : Value} {od : Option Addr} {kV doc pm : Value} {an : Option Addr} {cd ct : Value} {sl : Array (Option Value)}
    (aR : PySem.W.nsIn K mainGlobals "Refused" = some (some (.ref Cr))) (aF : PySem.W.nsIn K mainGlobals "FarError" = some (some (.ref CF)))
    (h : K.lookup Cr = some (excClassObj nm q Cr N bs bm true sn sub ab col dd k0 k1 k2 k3 k5 "ValueError.__new__")) (r : PySem.HandSPX.refsVE bm = true)
    (sa : PySem.W.findIn K (.ref Cr) "__setattr__" = some (some (.builtin "object.__setattr__"))) (ex : PySem.W.subIn K (.ref Cr) (.type "BaseException") = some true) (ty : PySem.W.typeIn K (.ref Cr) = some (.type "type")) (k : PySem.W.keepIn K (.ref Cr) = true)
    (ini : PySem.W.findIn K (.ref Cr) "__init__" = some (some (.ref fI))) (tI : PySem.W.typeIn K (.ref fI) = some (.type "function"))
    (hg : PySem.W.findIn K (.ref Cr) "__getattribute__" = some (some (.builtin "BaseException.__getattribute__"))) (hk : PySem.W.findIn K (.ref Cr) "__getattr__" = some none) (hd : PySem.W.hasDictIn K Cr = true)
    (ha : PySem.W.findIn K (.ref Cr) "__class__" = some (some (.builtin "object.__class__"))) (hn : PySem.W.specialIn K (.builtin "object.__class__") "__get__" = some (some (.builtin "getset_descriptor.__get__"))) (ht : PySem.W.takesIn K (.builtin "object.__class__") = some true) (hm : PySem.W.mroIn K Cr (.type "object") = some true)
    (no : PySem.W.findIn K (.ref Cr) "at" = some none)
    (l : K.lookup fI = some ⟨oc, od, .func (PySem.W.fnOf "__init__" "Refused.__init__" (defArgs sInit) (defBody sInit) (defScope sInit) .none kV doc pm an cd ct), sl⟩) (c : PySem.W.codeIn K cd "Refused.__init__" = true) (kI : PySem.W.keepIn K (.ref fI) = true)
    (kit : PySem.W.kitOne K (.ref Cr) (.ref CF) = some true) (sb : PySem.W.subIn K (.ref Cr) (.ref Cr) = some true) : ClsIn K :=
  ⟨Cr, CF, fI, _, ⟨oex_mk h r sa ex ty k, ini, tI, ⟨hg, hk, ex, hd⟩, ⟨hg, hk, ex, hd, ha, hn, ht, hm⟩, no⟩, fun_mk (st := sInit) l c kI, (fun_mk (st := sInit) l c kI).binds (fun _ _ _ _ _ _ us hl => match us, hl with | [_, _], _ => rfl), aR, aF, kit, PySem.W.exm_ref ex hd ty sb⟩
/-- all that the text must hold -/
structure AllF (K : PySem.W.Frag) (mg : Str → Option Value) (c0 : Addr) (c1 : Addr) (c2 : Addr) (c3 : Addr) : Prop where
  g : Mg mg
  k_MOST_VALUE : ∃ u, mg "MOST_VALUE" = some u ∧ RelV (.int 1000000) u
  int : Fx K mg "is_integer" ["value"] sIsInteger
  num : Fx K mg "is_number" ["value"] sIsNumber
  seq : Fx K mg "is_sequence" ["value"] sIsSequence
  par : Fx K mg "is_of_parts" ["value", "many"] sIsOfParts
  nn : Fx K mg "need_number" ["value"] sNeedNumber
  rd : Fx K mg "is_reading" ["value"] sIsReading
  sz : Fx K mg "is_size" ["value"] sIsSize
  su : Fx K mg "sums_with" ["many", "low", "high", "needs"] sSumsWith
  en : Fx K mg "ends_of" ["low", "high"] sEndsOf
  sp : Fx K mg "is_span" ["value"] sIsSpan
  be : Fk K mg "behind" ["span"] sBehind ["span"] [0]
  wi : Fk K mg "is_within" ["span", "other"] sIsWithin ["other", "span"] [1, 0]
  ap : Fk K mg "is_apart" ["span", "other"] sIsApart ["other", "span"] [1, 0]
  cl : Fx K mg "are_clear" ["one", "other"] sAreClear
  an : Fk K mg "are_nested" ["value"] sAreNested ["value"] [0]
  rb : Fx K mg "rows_between" ["first", "last", "parts"] sRowsBetween
  re : Fk K mg "rest" ["span", "parts"] sRest ["parts", "span"] [1, 0]
  box : Fx K mg "_law_box" ["_law_script", "_law_k"] sBox
  take : Fx K mg "_law_take" ["_law_box_here", "_law_many"] sTake
  pick : Fx K mg "_law_pick" ["_law_box_here", "_law_some_here"] sPick
  lr : Fx K mg "_law_rows" ["_law_span"] sLRows
  sm : Fx K mg "_law_some" ["_law_box_here", "_law_values"] sLSome
  st : Fx K mg "_law_stand" ["_law_one", "_law_other"] sLStand
  ne : Fx K mg "_law_is_nested" ["_law_spans"] sLNested
  rf : Fx K mg "_law_refused" ["_law_ask"] sLRefused
  cls : ∃ (Cr CF fI : Addr) (dI : FuncData), RefC K Cr fI ∧ Fun K "__init__" "Refused.__init__" sInit fI dI ∧ Binds K dI ["self", "at"] [] ∧ mg "Refused" = some (.ref Cr) ∧ mg "FarError" = some (.ref CF) ∧ PySem.W.kitOne K (.ref Cr) (.ref CF) = some true ∧ PySem.W.exmOne K (.ref Cr) (.ref Cr) = some true
  so : ∃ f fd, FunC K "span_of" "span_of" sSpanOf f fd c0 ∧ Binds K fd ["first", "values"] [] ∧ mg "span_of" = some (.ref f)
  asp : ∃ f fd, FunC K "are_spans" "are_spans" sAreSpans f fd c1 ∧ Binds K fd ["value"] [] ∧ mg "are_spans" = some (.ref f)
  apa : ∃ f fd, FunC K "are_parts" "are_parts" sAreParts f fd c2 ∧ Binds K fd ["parts", "span"] [] ∧ mg "are_parts" = some (.ref f)
section
variable {P : Program} {w : World} {K : PySem.W.Frag} {mg : Str → Option Value} {c0 c1 c2 c3 T0 T1 T2 T3 a fa : Addr} {ns : List Int}
theorem body (F : AllF K mg c0 c1 c2 c3) (_ : T0 ≠ T1) (_ : T0 ≠ T2) (n03 : T0 ≠ T3) (_ : T1 ≠ T2) (n13 : T1 ≠ T3) (n23 : T2 ≠ T3) (hn : ns.length ≤ 100) (hr12 : Room 12 callerA) : BodyOkC P w K mg [(c0, T0), (c1, T1), (c2, T2), (c3, T3)] lawN sLaw fa a ns (.ref c3) := by
  intro base s H M hTB hT hS
  have TB0 : TabB base mg c0 T0 := hTB (c0, T0) List.mem_cons_self
  have TB1 : TabB base mg c1 T1 := hTB (c1, T1) (List.mem_cons_of_mem _ List.mem_cons_self)
  have TB2 : TabB base mg c2 T2 := hTB (c2, T2) (List.mem_cons_of_mem _ (List.mem_cons_of_mem _ List.mem_cons_self))
  have TB3 : TabB base mg c3 T3 := hTB (c3, T3) (List.mem_cons_of_mem _ (List.mem_cons_of_mem _ (List.mem_cons_of_mem _ List.mem_cons_self)))
  obtain ⟨Z, hZ⟩ : ∃ Z : Tx, Z = ⟨[T0, T1, T2], T3, (LX P w K mg base fa (.ref c3) s H).env.qual ++ "<lambda>"⟩ := ⟨_, rfl⟩
  have m0 : T0 ∈ Z.ts := by rw [hZ]; exact List.mem_cons_self
  have m1 : T1 ∈ Z.ts := by rw [hZ]; exact List.mem_cons_of_mem _ List.mem_cons_self
  have m2 : T2 ∈ Z.ts := by rw [hZ]; exact List.mem_cons_of_mem _ (List.mem_cons_of_mem _ List.mem_cons_self)
  have np : Z.p ∉ Z.ts := by
    rw [hZ]
    intro h
    rcases List.mem_cons.mp h with z | h
    · exact n03 z.symm
    rcases List.mem_cons.mp h with z | h
    · exact n13 z.symm
    rcases List.mem_cons.mp h with z | h
    · exact n23 z.symm
    · cases h
  have TL : LamX.TabB base mg c3 Z.p := by rw [hZ]; exact ⟨TB3.code, TB3.bm, TB3.gP⟩
  have hq : (LX P w K mg base fa (.ref c3) s H).env.qual ++ "<lambda>" = Z.q := by rw [hZ]
  have hz : Z.Ok H := by
    rw [hZ]
    refine ⟨fun T hh => ?_, #[], hT (c3, T3) (List.mem_cons_of_mem _ (List.mem_cons_of_mem _ (List.mem_cons_of_mem _ List.mem_cons_self))), trivial, fun pos cv h => nomatch h⟩
    rcases List.mem_cons.mp hh with z | hh
    · rw [z]; exact ⟨#[], hT (c0, T0) List.mem_cons_self, trivial⟩
    rcases List.mem_cons.mp hh with z | hh
    · rw [z]; exact ⟨#[], hT (c1, T1) (List.mem_cons_of_mem _ List.mem_cons_self), trivial⟩
    rcases List.mem_cons.mp hh with z | hh
    · rw [z]; exact ⟨#[], hT (c2, T2) (List.mem_cons_of_mem _ (List.mem_cons_of_mem _ List.mem_cons_self)), trivial⟩
    · cases hh
  clear hZ
  have hrX : Room 10 (LX P w K mg base fa (.ref c3) s H).A := (hr12.mono (show 11 ≤ 12 by decide)).deeper _
  have hr : Room 9 (LX P w K mg base fa (.ref c3) s H).A := hrX.mono (by decide)
  have G := F.g
  have MV : Mv mg := F.k_MOST_VALUE
  obtain ⟨f_int, d_int, x_int⟩ := F.int
  obtain ⟨f_num, d_num, x_num⟩ := F.num
  obtain ⟨f_seq, d_seq, x_seq⟩ := F.seq
  obtain ⟨f_par, d_par, x_par⟩ := F.par
  obtain ⟨f_nn, d_nn, x_nn⟩ := F.nn
  obtain ⟨f_rd, d_rd, x_rd⟩ := F.rd
  obtain ⟨f_sz, d_sz, x_sz⟩ := F.sz
  obtain ⟨f_su, d_su, x_su⟩ := F.su
  obtain ⟨f_en, d_en, x_en⟩ := F.en
  obtain ⟨f_sp, d_sp, x_sp⟩ := F.sp
  obtain ⟨f_be, d_be, x_be, w_be⟩ := F.be
  obtain ⟨f_wi, d_wi, x_wi, w_wi⟩ := F.wi
  obtain ⟨f_ap, d_ap, x_ap, w_ap⟩ := F.ap
  obtain ⟨f_cl, d_cl, x_cl⟩ := F.cl
  obtain ⟨f_an, d_an, x_an, w_an⟩ := F.an
  obtain ⟨f_rb, d_rb, x_rb⟩ := F.rb
  obtain ⟨f_re, d_re, x_re, w_re⟩ := F.re
  obtain ⟨f_box, d_box, x_box⟩ := F.box
  obtain ⟨f_take, d_take, x_take⟩ := F.take
  obtain ⟨f_pick, d_pick, x_pick⟩ := F.pick
  obtain ⟨f_lr, d_lr, x_lr⟩ := F.lr
  obtain ⟨f_sm, d_sm, x_sm⟩ := F.sm
  obtain ⟨f_st, d_st, x_st⟩ := F.st
  obtain ⟨f_ne, d_ne, x_ne⟩ := F.ne
  obtain ⟨f_rf, d_rf, x_rf⟩ := F.rf
  obtain ⟨f_so, d_so, c_so, b_so, g_so⟩ := F.so
  obtain ⟨f_asp, d_asp, c_asp, b_asp, g_asp⟩ := F.asp
  obtain ⟨f_apa, d_apa, c_apa, b_apa, g_apa⟩ := F.apa
  obtain ⟨Cr, CF, fI, dI, RC, FI, bI, mC, mF, kit, exm⟩ := F.cls
  have x_so : Fns K mg "span_of" ["first", "values"] sSpanOf f_so d_so := ⟨c_so.fn, b_so, g_so⟩
  have x_asp : Fns K mg "are_spans" ["value"] sAreSpans f_asp d_asp := ⟨c_asp.fn, b_asp, g_asp⟩
  have x_apa : Fns K mg "are_parts" ["parts", "span"] sAreParts f_apa d_apa := ⟨c_apa.fn, b_apa, g_apa⟩
  have CBe : Cal P w K mg base "behind" ["span"] sBehind 1 (spBehind K) f_be d_be := ⟨x_be, ok_behind x_be.fn⟩
  have CWi : Cal P w K mg base "is_within" ["span", "other"] sIsWithin 2 (spTwo K within) f_wi d_wi := ⟨x_wi, ok_is_within x_wi.fn CBe⟩
  have CAp : Cal P w K mg base "is_apart" ["span", "other"] sIsApart 2 (spTwo K apart) f_ap d_ap := ⟨x_ap, ok_is_apart x_ap.fn CBe⟩
  have CCl : Cal P w K mg base "are_clear" ["one", "other"] sAreClear 3 (spTwo K clear) f_cl d_cl := ⟨x_cl, ok_are_clear x_cl.fn CAp CWi⟩
  have gSp : PF P w K mg base 4 f_sp d_sp ["value"] pSpan := pf_is_span M G MV G.sum x_sp.fn x_par x_num x_int x_sz x_rd x_su x_en x_seq
  have CSp : Cal P w K mg base "is_span" ["value"] sIsSpan 4 (spPure P w base ["value"] pSpan) f_sp d_sp := ⟨x_sp, gSp.ok⟩
  have CAS : Cal P w K mg base "are_spans" ["value"] sAreSpans 6 (spAreS K Z) f_asp d_asp := ⟨x_asp, ok_are_spans M G c_asp TB1 m1 np x_seq x_sp gSp⟩
  have CSO : Cal P w K mg base "span_of" ["first", "values"] sSpanOf 6 (spSpanOf K Z) f_so d_so := ⟨x_so, ok_span_of M G MV G.sum c_so TB0 m0 np x_nn x_num x_int x_seq x_sz x_rd⟩
  have CAN : Cal P w K mg base "are_nested" ["value"] sAreNested 7 (spNested K Z) f_an d_an := ⟨x_an, ok_are_nested G x_an.fn CAS CCl⟩
  have CAP : Cal P w K mg base "are_parts" ["parts", "span"] sAreParts 7 (spParts K Z) f_apa d_apa := ⟨x_apa, ok_are_parts M G c_apa TB2 m2 np CAS x_wi CBe⟩
  have CRB : Cal P w K mg base "rows_between" ["first", "last", "parts"] sRowsBetween 2 (spRows K) f_rb d_rb := ⟨x_rb, ok_rows_between G x_rb.fn CBe⟩
  have gI : FnOk P w K mg base CX0 1 fI dI ["self", "at"] (spInitAt Cr) := ok_init RC FI
  have CRe : CalX P w K mg base "rest" ["span", "parts"] sRest 8 (spRest K Z Cr) f_re d_re := ⟨x_re, ok_rest M G RC gI bI mC x_re.fn CSp CAP CRB CBe⟩
  have CBox : Cal P w K mg base "_law_box" ["_law_script", "_law_k"] sBox 1 (spBox K ns) f_box d_box := ⟨x_box, ok_box G x_box.fn⟩
  have CT : Cal P w K mg base "_law_take" ["_law_box_here", "_law_many"] sTake 1 spTake f_take d_take := ⟨x_take, ok_take G x_take.fn⟩
  have CP : Cal P w K mg base "_law_pick" ["_law_box_here", "_law_some_here"] sPick 2 spPick f_pick d_pick := ⟨x_pick, ok_pick G x_pick.fn x_take⟩
  have CLR : Cal P w K mg base "_law_rows" ["_law_span"] sLRows 1 (spLRows K) f_lr d_lr := ⟨x_lr, ok_lrows G x_lr.fn⟩
  have CSt : Cal P w K mg base "_law_stand" ["_law_one", "_law_other"] sLStand 2 (spStand K) f_st d_st := ⟨x_st, ok_stand G x_st.fn CLR⟩
  have CNe : Cal P w K mg base "_law_is_nested" ["_law_spans"] sLNested 3 (spLNested K) f_ne d_ne := ⟨x_ne, ok_lnested G x_ne.fn CSt⟩
  have CSm : Cal P w K mg base "_law_some" ["_law_box_here", "_law_values"] sLSome 7 (spSome Z) f_sm d_sm := ⟨x_sm, ok_lsome G x_sm.fn CP CT CSO⟩
  have bd : Tis (LX P w K mg base fa (.ref c3) s H) (bodyOf (lawS 0)) (B0 K Z a ns) (B21 K Z a ns) :=
    Tis.cons (ti_0 hr CBox hn) (Tis.cons (ti_1 hr G CT) (Tis.cons (ti_2 hr G CT CSm) (Tis.cons (ti_3 hr CP CSm) (Tis.cons (ti_4 hr G CWi CAp CSt) (Tis.cons (ti_5 hr G CWi CAp w_wi w_ap CSt) (Tis.cons (ti_6 hr CNe) (Tis.cons (ti_7 hr G CAN CBe w_an w_be)
    (Tis.cons (ti_8 hr CP) (Tis.cons (ti_9 hr CAN) (Tis.cons (ti_10 hr CSO) (Tis.cons (ti_11 hr G CSO CT CP) (Tis.cons ti_12 (Tis.cons (ti_13 hr CLR) (Tis.cons (ti_14 G) (Tis.cons (ti_15 hr G) (Tis.cons (ti_16 hr G CRe w_re) (Tis.cons ti_17
    (Tis.cons (ti_18 hr CP) (Tis.cons (ti_19 hrX G CRe x_rf.fn x_rf.mg x_rf.bd RC mC mF kit exm TL np hq) (Tis.cons (ti_20 hr CP) (Tis.one (ti_21 hrX G CRe x_rf.fn x_rf.mg x_rf.bd RC mC mF kit exm TL np hq))))))))))))))))))))))
  obtain ⟨tb, hb1, hb2⟩ := bd
  refine ⟨_, pss_cons (ps_for PassesOwn.never rfl (pi_range1 (by rfl) G.range (pa_cons pe_int pa_nil)) (pg_name (i := 1) scLaw.nd rfl (.inl rfl)) hb1) (pss_one (ps_ret pe_bl)), ?_⟩
  refine s_forR1 (n := 4) (ea_cons ev_c ea_nil) ⟨by decide, by decide⟩ (fun i σ H => B21 K Z a ns i σ H) (fun H1 e => ?_) (fun i σ' H' hi p1 => ?_) (fun σ' H' p1 => rfl)
  · have na : a ∉ [a + 1] := fun h => by
      have z := List.mem_singleton.mp h
      exact absurd z (by simp)
    exact ⟨a + 1, rfl, rfl, hz.ex e, (kp_L na hS).go (Go.ex hz e)⟩
  · obtain ⟨p, len, h0, hz', scr⟩ := p1
    refine hb2 i _ _ _ ⟨p, by rw [List.length_set]; exact len, sl_ne h0 (by decide), sl_eq (by rw [len]; decide), by omega, hz', scr⟩ fun σ'' H'' b => b
end
theorem walk {l : PySem.W.OpenLaw} {q : Program} {loose : List Str} {XP : (Str → Option Value) → Heap → Prop} {YP : World → Heap → Prop} {d d0 d1 d2 d3 : DefRec} {K : Params → PySem.W.Frag} (hn : l.most = some 63) (hdf : d.params.defaults = []) (hd0 : (recsOf q).find? (fun e => e.name == ("span_of" : Str)) = some d0) (hd1 : (recsOf q).find? (fun e => e.name == ("are_spans" : Str)) = some d1) (hd2 : (recsOf q).find? (fun e => e.name == ("are_parts" : Str)) = some d2) (hd3 : (recsOf q).find? (fun e => e.name == ("law" : Str)) = some d3)
    (hY : ∀ (w : World) (h : Heap), YP w h → (K w.params).In h)
    (F : ∀ (w : World) (mg : Str → Option Value) (fa : Addr) (h : Heap), (K w.params).In h → h.Ns mainGlobals mg → mg d.name = some (.ref fa) →
      ∃ (fd : FuncData) (c0 T0 : Addr) (c1 T1 : Addr) (c2 T2 : Addr) (c3 T3 : Addr), FunC (K w.params) "law" "law" sLaw fa fd c3 ∧ (∀ (s : Shared) (u : Value), BindsTo s fd ⟨[u], []⟩ [("_law_script", u)]) ∧ AllF (K w.params) mg c0 c1 c2 c3 ∧ PySem.W.tabIn (K w.params) "span_of" = some (c0, T0) ∧ (K w.params).lookup T0 = none ∧ PySem.W.tabIn (K w.params) "are_spans" = some (c1, T1) ∧ (K w.params).lookup T1 = none ∧ PySem.W.tabIn (K w.params) "are_parts" = some (c2, T2) ∧ (K w.params).lookup T2 = none ∧ PySem.W.tabIn (K w.params) "law" = some (c3, T3) ∧ (K w.params).lookup T3 = none ∧ T0 ≠ T1 ∧ T0 ≠ T2 ∧ T0 ≠ T3 ∧ T1 ≠ T2 ∧ T1 ≠ T3 ∧ T2 ≠ T3) :
    PySem.W.WalkO q loose XP YP l.row.toRowW d [] (fun f vs => PySem.call f vs) := by
  refine Att.attach_callB hn hdf fun w s₀ s₁ mg mb fa o pm cd doc a vs ns G Y ho hd hcd hmg hobj hints hlen hbits hg => ?_
  have KX := hY w _ Y
  obtain ⟨fd, c0, T0, c1, T1, c2, T2, c3, T3, Fn, hb, A, ht0, nT0, ht1, nT1, ht2, nT2, ht3, nT3, ne01, ne02, ne03, ne12, ne13, ne23⟩ := F w mg fa _ KX G.T.g hmg
  obtain ⟨C0, hT0⟩ := PySem.W.tab_of G.T KX hd0 ht0
  obtain ⟨C1, hT1⟩ := PySem.W.tab_of G.T KX hd1 ht1
  obtain ⟨C2, hT2⟩ := PySem.W.tab_of G.T KX hd2 ht2
  obtain ⟨C3, hT3⟩ := PySem.W.tab_of G.T KX hd3 ht3
  have one : Bare [(c0, T0), (c1, T1), (c2, T2), (c3, T3)] (K w.params) _ := fun p hp => by
    rcases List.mem_cons.mp hp with z | hp
    · rw [z]; exact ⟨⟨hT0, nT0⟩, C0⟩
    rcases List.mem_cons.mp hp with z | hp
    · rw [z]; exact ⟨⟨hT1, nT1⟩, C1⟩
    rcases List.mem_cons.mp hp with z | hp
    · rw [z]; exact ⟨⟨hT2, nT2⟩, C2⟩
    rcases List.mem_cons.mp hp with z | hp
    · rw [z]; exact ⟨⟨hT3, nT3⟩, C3⟩
    · cases hp
  have hr : Room 12 callerA := ⟨rfl, by decide, by decide⟩
  exact law_endC (cs := [(c0, T0), (c1, T1), (c2, T2), (c3, T3)]) KX G.T.g G.T.b G.T.builtins G.T.nolimit hg one G.T.bmain hobj hints (Nat.le_trans hlen (by decide)) Fn scLaw hb (hr.mono (by decide)) (body A ne01 ne02 ne03 ne12 ne13 ne23 (by omega) hr)
end K08
set_option Elab.async false
set_option linter.all false
set_option maxRecDepth 100000
set_option maxHeartbeats 4000000
namespace K08
open PySem PySem.Spec PyProof.Rows L2 GxR Pu Evl
theorem allf {K : PySem.W.Frag} {h : Heap} {mg : Str → Option Value} {f0 c0 : Addr} {od0 an0 : Option Addr} {sl0 : Array (Option Value)} {oc0 kV0 dc0 pm0 ct0 : Value} {f1 c1 : Addr} {od1 an1 : Option Addr} {sl1 : Array (Option Value)} {oc1 kV1 dc1 pm1 ct1 : Value} {f2 c2 : Addr} {od2 an2 : Option Addr} {sl2 : Array (Option Value)} {oc2 kV2 dc2 pm2 ct2 : Value} {f3 c3 : Addr} {od3 an3 : Option Addr} {sl3 : Array (Option Value)} {oc3 kV3 dc3 pm3 ct3 : Value} (X : K.In h) (G : h.Ns mainGlobals mg)
    (d_int : DefIn K "is_integer" sIsInteger)
    (d_num : DefIn K "is_number" sIsNumber)
    (d_seq : DefIn K "is_sequence" sIsSequence)
    (d_par : DefIn K "is_of_parts" sIsOfParts)
    (d_nn : DefIn K "need_number" sNeedNumber)
    (d_rd : DefIn K "is_reading" sIsReading)
    (d_sz : DefIn K "is_size" sIsSize)
    (d_su : DefIn K "sums_with" sSumsWith)
    (d_en : DefIn K "ends_of" sEndsOf)
    (d_sp : DefIn K "is_span" sIsSpan)
    (d_be : DefIn K "behind" sBehind)
    (d_wi : DefIn K "is_within" sIsWithin)
    (d_ap : DefIn K "is_apart" sIsApart)
    (d_cl : DefIn K "are_clear" sAreClear)
    (d_an : DefIn K "are_nested" sAreNested)
    (d_rb : DefIn K "rows_between" sRowsBetween)
    (d_re : DefIn K "rest" sRest)
    (d_box : DefIn K "_law_box" sBox)
    (d_take : DefIn K "_law_take" sTake)
    (d_pick : DefIn K "_law_pick" sPick)
    (d_lr : DefIn K "_law_rows" sLRows)
    (d_sm : DefIn K "_law_some" sLSome)
    (d_st : DefIn K "_law_stand" sLStand)
    (d_ne : DefIn K "_law_is_nested" sLNested)
    (d_rf : DefIn K "_law_refused" sLRefused)
    (a_so : PySem.W.nsIn K mainGlobals "span_of" = some (some (.ref f0))) (l_so : K.lookup f0 = some ⟨oc0, od0, .func (PySem.W.fnOf "span_of" "span_of" (defArgs sSpanOf) (defBody sSpanOf) (defScope sSpanOf) .none kV0 dc0 pm0 an0 (.ref c0) ct0), sl0⟩) (c_so : PySem.W.codeIn K (.ref c0) "span_of" = true) (k_so : PySem.W.keepIn K (.ref f0) = true)
    (a_asp : PySem.W.nsIn K mainGlobals "are_spans" = some (some (.ref f1))) (l_asp : K.lookup f1 = some ⟨oc1, od1, .func (PySem.W.fnOf "are_spans" "are_spans" (defArgs sAreSpans) (defBody sAreSpans) (defScope sAreSpans) .none kV1 dc1 pm1 an1 (.ref c1) ct1), sl1⟩) (c_asp : PySem.W.codeIn K (.ref c1) "are_spans" = true) (k_asp : PySem.W.keepIn K (.ref f1) = true)
    (a_apa : PySem.W.nsIn K mainGlobals "are_parts" = some (some (.ref f2))) (l_apa : K.lookup f2 = some ⟨oc2, od2, .func (PySem.W.fnOf "are_parts" "are_parts" (defArgs sAreParts) (defBody sAreParts) (defScope sAreParts) .none kV2 dc2 pm2 an2 (.ref c2) ct2), sl2⟩) (c_apa : PySem.W.codeIn K (.ref c2) "are_parts" = true) (k_apa : PySem.W.keepIn K (.ref f2) = true)
    (a_lw : PySem.W.nsIn K mainGlobals "law" = some (some (.ref f3))) (l_lw : K.lookup f3 = some ⟨oc3, od3, .func (PySem.W.fnOf "law" "law" (defArgs sLaw) (defBody sLaw) (defScope sLaw) .none kV3 dc3 pm3 an3 (.ref c3) ct3), sl3⟩) (c_lw : PySem.W.codeIn K (.ref c3) "law" = true) (k_lw : PySem.W.keepIn K (.ref f3) = true)
    (d_cls : ClsIn K)
    (q_MOST_VALUE : ∃ u, PySem.W.nsIn K mainGlobals "MOST_VALUE" = some (some u) ∧ RelV (.int 1000000) u)
    (z_isinstance : PySem.W.nsIn K mainGlobals "isinstance" = some none)
    (z_int : PySem.W.nsIn K mainGlobals "int" = some none)
    (z_bool : PySem.W.nsIn K mainGlobals "bool" = some none)
    (z_list : PySem.W.nsIn K mainGlobals "list" = some none)
    (z_tuple : PySem.W.nsIn K mainGlobals "tuple" = some none)
    (z_len : PySem.W.nsIn K mainGlobals "len" = some none)
    (z_range : PySem.W.nsIn K mainGlobals "range" = some none)
    (z_enumerate : PySem.W.nsIn K mainGlobals "enumerate" = some none)
    (z_reversed : PySem.W.nsIn K mainGlobals "reversed" = some none)
    (z_all : PySem.W.nsIn K mainGlobals "all" = some none)
    (z_abs : PySem.W.nsIn K mainGlobals "abs" = some none)
    (z_max : PySem.W.nsIn K mainGlobals "max" = some none)
    (z_min : PySem.W.nsIn K mainGlobals "min" = some none)
    (z_set : PySem.W.nsIn K mainGlobals "set" = some none)
    (z_repr : PySem.W.nsIn K mainGlobals "repr" = some none)
    (z_any : PySem.W.nsIn K mainGlobals "any" = some none)
    (z_zip : PySem.W.nsIn K mainGlobals "zip" = some none)
    (z_sum : PySem.W.nsIn K mainGlobals "sum" = some none)
    : AllF K mg c0 c1 c2 c3 where
  g := ⟨PySem.W.mg_none_of X G z_isinstance, PySem.W.mg_none_of X G z_int, PySem.W.mg_none_of X G z_bool, PySem.W.mg_none_of X G z_list, PySem.W.mg_none_of X G z_tuple, PySem.W.mg_none_of X G z_len, PySem.W.mg_none_of X G z_range, PySem.W.mg_none_of X G z_enumerate, PySem.W.mg_none_of X G z_reversed, PySem.W.mg_none_of X G z_all, PySem.W.mg_none_of X G z_abs, PySem.W.mg_none_of X G z_max, PySem.W.mg_none_of X G z_min, PySem.W.mg_none_of X G z_set, PySem.W.mg_none_of X G z_repr, PySem.W.mg_none_of X G z_any, PySem.W.mg_none_of X G z_zip, PySem.W.mg_none_of X G z_sum⟩
  k_MOST_VALUE := by obtain ⟨u, e, r⟩ := q_MOST_VALUE; exact ⟨u, PySem.W.mg_of X G e, r⟩
  int := d_int.fx X G (fun _ _ _ _ _ _ us hl => match us, hl with | [_], _ => rfl)
  num := d_num.fx X G (fun _ _ _ _ _ _ us hl => match us, hl with | [_], _ => rfl)
  seq := d_seq.fx X G (fun _ _ _ _ _ _ us hl => match us, hl with | [_], _ => rfl)
  par := d_par.fx X G (fun _ _ _ _ _ _ us hl => match us, hl with | [_, _], _ => rfl)
  nn := d_nn.fx X G (fun _ _ _ _ _ _ us hl => match us, hl with | [_], _ => rfl)
  rd := d_rd.fx X G (fun _ _ _ _ _ _ us hl => match us, hl with | [_], _ => rfl)
  sz := d_sz.fx X G (fun _ _ _ _ _ _ us hl => match us, hl with | [_], _ => rfl)
  su := d_su.fx X G (fun _ _ _ _ _ _ us hl => match us, hl with | [_, _, _, _], _ => rfl)
  en := d_en.fx X G (fun _ _ _ _ _ _ us hl => match us, hl with | [_, _], _ => rfl)
  sp := d_sp.fx X G (fun _ _ _ _ _ _ us hl => match us, hl with | [_], _ => rfl)
  be := d_be.fk X G (fun _ _ _ _ _ _ us hl => match us, hl with | [_], _ => rfl) (fun _ _ _ _ _ _ us hl => match us, hl with | [_], _ => rfl) (by decide)
  wi := d_wi.fk X G (fun _ _ _ _ _ _ us hl => match us, hl with | [_, _], _ => rfl) (fun _ _ _ _ _ _ us hl => match us, hl with | [_, _], _ => rfl) (by decide)
  ap := d_ap.fk X G (fun _ _ _ _ _ _ us hl => match us, hl with | [_, _], _ => rfl) (fun _ _ _ _ _ _ us hl => match us, hl with | [_, _], _ => rfl) (by decide)
  cl := d_cl.fx X G (fun _ _ _ _ _ _ us hl => match us, hl with | [_, _], _ => rfl)
  an := d_an.fk X G (fun _ _ _ _ _ _ us hl => match us, hl with | [_], _ => rfl) (fun _ _ _ _ _ _ us hl => match us, hl with | [_], _ => rfl) (by decide)
  rb := d_rb.fx X G (fun _ _ _ _ _ _ us hl => match us, hl with | [_, _, _], _ => rfl)
  re := d_re.fk X G (fun _ _ _ _ _ _ us hl => match us, hl with | [_, _], _ => rfl) (fun _ _ _ _ _ _ us hl => match us, hl with | [_, _], _ => rfl) (by decide)
  box := d_box.fx X G (fun _ _ _ _ _ _ us hl => match us, hl with | [_, _], _ => rfl)
  take := d_take.fx X G (fun _ _ _ _ _ _ us hl => match us, hl with | [_, _], _ => rfl)
  pick := d_pick.fx X G (fun _ _ _ _ _ _ us hl => match us, hl with | [_, _], _ => rfl)
  lr := d_lr.fx X G (fun _ _ _ _ _ _ us hl => match us, hl with | [_], _ => rfl)
  sm := d_sm.fx X G (fun _ _ _ _ _ _ us hl => match us, hl with | [_, _], _ => rfl)
  st := d_st.fx X G (fun _ _ _ _ _ _ us hl => match us, hl with | [_, _], _ => rfl)
  ne := d_ne.fx X G (fun _ _ _ _ _ _ us hl => match us, hl with | [_], _ => rfl)
  rf := d_rf.fx X G (fun _ _ _ _ _ _ us hl => match us, hl with | [_], _ => rfl)
  cls := by
    obtain ⟨Cr, CF, fI, dI, h1, h2, h3, h4, h5, h6, h7⟩ := d_cls
    exact ⟨Cr, CF, fI, dI, h1, h2, h3, PySem.W.mg_of X G h4, PySem.W.mg_of X G h5, h6, h7⟩
  so := ⟨f0, _, ⟨⟨oc0, od0, kV0, dc0, pm0, an0, ct0, sl0, rfl, l_so, c_so⟩, k_so⟩, (fun_mk (st := sSpanOf) l_so c_so k_so).binds (fun _ _ _ _ _ _ us hl => match us, hl with | [_, _], _ => rfl), PySem.W.mg_of X G a_so⟩
  asp := ⟨f1, _, ⟨⟨oc1, od1, kV1, dc1, pm1, an1, ct1, sl1, rfl, l_asp, c_asp⟩, k_asp⟩, (fun_mk (st := sAreSpans) l_asp c_asp k_asp).binds (fun _ _ _ _ _ _ us hl => match us, hl with | [_], _ => rfl), PySem.W.mg_of X G a_asp⟩
  apa := ⟨f2, _, ⟨⟨oc2, od2, kV2, dc2, pm2, an2, ct2, sl2, rfl, l_apa, c_apa⟩, k_apa⟩, (fun_mk (st := sAreParts) l_apa c_apa k_apa).binds (fun _ _ _ _ _ _ us hl => match us, hl with | [_, _], _ => rfl), PySem.W.mg_of X G a_apa⟩
theorem fin {K : PySem.W.Frag} {h : Heap} {mg : Str → Option Value} {fa : Addr} {f0 c0 : Addr} {od0 an0 : Option Addr} {sl0 : Array (Option Value)} {oc0 kV0 dc0 pm0 ct0 : Value} {f1 c1 : Addr} {od1 an1 : Option Addr} {sl1 : Array (Option Value)} {oc1 kV1 dc1 pm1 ct1 : Value} {f2 c2 : Addr} {od2 an2 : Option Addr} {sl2 : Array (Option Value)} {oc2 kV2 dc2 pm2 ct2 : Value} {f3 c3 : Addr} {od3 an3 : Option Addr} {sl3 : Array (Option Value)} {oc3 kV3 dc3 pm3 ct3 : Value} {T0 : Addr} {cc0 : Value} {oe0 : Option Addr} {vs0 : Array Value} {sm0 : Array (Option Value)} {T1 : Addr} {cc1 : Value} {oe1 : Option Addr} {vs1 : Array Value} {sm1 : Array (Option Value)} {T2 : Addr} {cc2 : Value} {oe2 : Option Addr} {vs2 : Array Value} {sm2 : Array (Option Value)} {T3 : Addr} {cc3 : Value} {oe3 : Option Addr} {vs3 : Array Value} {sm3 : Array (Option Value)} (X : K.In h) (G : h.Ns mainGlobals mg) (hfa : mg "law" = some (.ref fa))
    (d_int : DefIn K "is_integer" sIsInteger)
    (d_num : DefIn K "is_number" sIsNumber)
    (d_seq : DefIn K "is_sequence" sIsSequence)
    (d_par : DefIn K "is_of_parts" sIsOfParts)
    (d_nn : DefIn K "need_number" sNeedNumber)
    (d_rd : DefIn K "is_reading" sIsReading)
    (d_sz : DefIn K "is_size" sIsSize)
    (d_su : DefIn K "sums_with" sSumsWith)
    (d_en : DefIn K "ends_of" sEndsOf)
    (d_sp : DefIn K "is_span" sIsSpan)
    (d_be : DefIn K "behind" sBehind)
    (d_wi : DefIn K "is_within" sIsWithin)
    (d_ap : DefIn K "is_apart" sIsApart)
    (d_cl : DefIn K "are_clear" sAreClear)
    (d_an : DefIn K "are_nested" sAreNested)
    (d_rb : DefIn K "rows_between" sRowsBetween)
    (d_re : DefIn K "rest" sRest)
    (d_box : DefIn K "_law_box" sBox)
    (d_take : DefIn K "_law_take" sTake)
    (d_pick : DefIn K "_law_pick" sPick)
    (d_lr : DefIn K "_law_rows" sLRows)
    (d_sm : DefIn K "_law_some" sLSome)
    (d_st : DefIn K "_law_stand" sLStand)
    (d_ne : DefIn K "_law_is_nested" sLNested)
    (d_rf : DefIn K "_law_refused" sLRefused)
    (a_so : PySem.W.nsIn K mainGlobals "span_of" = some (some (.ref f0))) (l_so : K.lookup f0 = some ⟨oc0, od0, .func (PySem.W.fnOf "span_of" "span_of" (defArgs sSpanOf) (defBody sSpanOf) (defScope sSpanOf) .none kV0 dc0 pm0 an0 (.ref c0) ct0), sl0⟩) (c_so : PySem.W.codeIn K (.ref c0) "span_of" = true) (k_so : PySem.W.keepIn K (.ref f0) = true)
    (a_asp : PySem.W.nsIn K mainGlobals "are_spans" = some (some (.ref f1))) (l_asp : K.lookup f1 = some ⟨oc1, od1, .func (PySem.W.fnOf "are_spans" "are_spans" (defArgs sAreSpans) (defBody sAreSpans) (defScope sAreSpans) .none kV1 dc1 pm1 an1 (.ref c1) ct1), sl1⟩) (c_asp : PySem.W.codeIn K (.ref c1) "are_spans" = true) (k_asp : PySem.W.keepIn K (.ref f1) = true)
    (a_apa : PySem.W.nsIn K mainGlobals "are_parts" = some (some (.ref f2))) (l_apa : K.lookup f2 = some ⟨oc2, od2, .func (PySem.W.fnOf "are_parts" "are_parts" (defArgs sAreParts) (defBody sAreParts) (defScope sAreParts) .none kV2 dc2 pm2 an2 (.ref c2) ct2), sl2⟩) (c_apa : PySem.W.codeIn K (.ref c2) "are_parts" = true) (k_apa : PySem.W.keepIn K (.ref f2) = true)
    (a_lw : PySem.W.nsIn K mainGlobals "law" = some (some (.ref f3))) (l_lw : K.lookup f3 = some ⟨oc3, od3, .func (PySem.W.fnOf "law" "law" (defArgs sLaw) (defBody sLaw) (defScope sLaw) .none kV3 dc3 pm3 an3 (.ref c3) ct3), sl3⟩) (c_lw : PySem.W.codeIn K (.ref c3) "law" = true) (k_lw : PySem.W.keepIn K (.ref f3) = true)
    (d_cls : ClsIn K)
    (q_MOST_VALUE : ∃ u, PySem.W.nsIn K mainGlobals "MOST_VALUE" = some (some u) ∧ RelV (.int 1000000) u)
    (z_isinstance : PySem.W.nsIn K mainGlobals "isinstance" = some none)
    (z_int : PySem.W.nsIn K mainGlobals "int" = some none)
    (z_bool : PySem.W.nsIn K mainGlobals "bool" = some none)
    (z_list : PySem.W.nsIn K mainGlobals "list" = some none)
    (z_tuple : PySem.W.nsIn K mainGlobals "tuple" = some none)
    (z_len : PySem.W.nsIn K mainGlobals "len" = some none)
    (z_range : PySem.W.nsIn K mainGlobals "range" = some none)
    (z_enumerate : PySem.W.nsIn K mainGlobals "enumerate" = some none)
    (z_reversed : PySem.W.nsIn K mainGlobals "reversed" = some none)
    (z_all : PySem.W.nsIn K mainGlobals "all" = some none)
    (z_abs : PySem.W.nsIn K mainGlobals "abs" = some none)
    (z_max : PySem.W.nsIn K mainGlobals "max" = some none)
    (z_min : PySem.W.nsIn K mainGlobals "min" = some none)
    (z_set : PySem.W.nsIn K mainGlobals "set" = some none)
    (z_repr : PySem.W.nsIn K mainGlobals "repr" = some none)
    (z_any : PySem.W.nsIn K mainGlobals "any" = some none)
    (z_zip : PySem.W.nsIn K mainGlobals "zip" = some none)
    (z_sum : PySem.W.nsIn K mainGlobals "sum" = some none)
    (m_so : K.lookup c0 = some ⟨cc0, oe0, .fields vs0, sm0⟩) (h_so : (vs0[11]? : Option Value) = some (.ref T0)) (n_so : K.lookup T0 = none)
    (m_asp : K.lookup c1 = some ⟨cc1, oe1, .fields vs1, sm1⟩) (h_asp : (vs1[11]? : Option Value) = some (.ref T1)) (n_asp : K.lookup T1 = none)
    (m_apa : K.lookup c2 = some ⟨cc2, oe2, .fields vs2, sm2⟩) (h_apa : (vs2[11]? : Option Value) = some (.ref T2)) (n_apa : K.lookup T2 = none)
    (m_lw : K.lookup c3 = some ⟨cc3, oe3, .fields vs3, sm3⟩) (h_lw : (vs3[11]? : Option Value) = some (.ref T3)) (n_lw : K.lookup T3 = none)
    (ne01 : T0 ≠ T1)
    (ne02 : T0 ≠ T2)
    (ne03 : T0 ≠ T3)
    (ne12 : T1 ≠ T2)
    (ne13 : T1 ≠ T3)
    (ne23 : T2 ≠ T3)
    : ∃ (fd : FuncData) (c0 T0 : Addr) (c1 T1 : Addr) (c2 T2 : Addr) (c3 T3 : Addr), FunC K "law" "law" sLaw fa fd c3 ∧ (∀ (s : Shared) (u : Value), BindsTo s fd ⟨[u], []⟩ [("_law_script", u)]) ∧ AllF K mg c0 c1 c2 c3 ∧ PySem.W.tabIn K "span_of" = some (c0, T0) ∧ K.lookup T0 = none ∧ PySem.W.tabIn K "are_spans" = some (c1, T1) ∧ K.lookup T1 = none ∧ PySem.W.tabIn K "are_parts" = some (c2, T2) ∧ K.lookup T2 = none ∧ PySem.W.tabIn K "law" = some (c3, T3) ∧ K.lookup T3 = none ∧ T0 ≠ T1 ∧ T0 ≠ T2 ∧ T0 ≠ T3 ∧ T1 ≠ T2 ∧ T1 ≠ T3 ∧ T2 ≠ T3 := by
  have e := hfa.symm.trans (PySem.W.mg_of X G a_lw)
  cases e
  exact ⟨_, c0, T0, c1, T1, c2, T2, c3, T3, ⟨⟨oc3, od3, kV3, dc3, pm3, an3, ct3, sl3, rfl, l_lw, c_lw⟩, k_lw⟩, fun s v => .of_eq rfl, allf X G d_int d_num d_seq d_par d_nn d_rd d_sz d_su d_en d_sp d_be d_wi d_ap d_cl d_an d_rb d_re d_box d_take d_pick d_lr d_sm d_st d_ne d_rf a_so l_so c_so k_so a_asp l_asp c_asp k_asp a_apa l_apa c_apa k_apa a_lw l_lw c_lw k_lw d_cls q_MOST_VALUE z_isinstance z_int z_bool z_list z_tuple z_len z_range z_enumerate z_reversed z_all z_abs z_max z_min z_set z_repr z_any z_zip z_sum, tab_mk a_so l_so rfl m_so h_so, n_so, tab_mk a_asp l_asp rfl m_asp h_asp, n_asp, tab_mk a_apa l_apa rfl m_apa h_apa, n_apa, tab_mk a_lw l_lw rfl m_lw h_lw, n_lw, ne01, ne02, ne03, ne12, ne13, ne23⟩
end K08
open PySem PySem.W PyProof.Rows in
set_option maxRecDepth 100000 in
set_option maxHeartbeats 0 in
theorem PySem.Challenge.cw_farstory_k08_spans_nested_and_what_is_le_holds : PySem.Challenge.rw_farstory_k08_spans_nested_and_what_is_le.Holds := by
  w_on; o_law; k_head; (case hw => w_witness2)
  k_fill
  refine K08.walk (l := PySem.Challenge.rw_farstory_k08_spans_nested_and_what_is_le) rfl rfl rfl rfl rfl rfl (fun w h Y => PySem.W.km_in_of Y) ?F
  case F =>
    intro w mg fa h KX G hmg
    refine' K08.fin KX G hmg ?d_int ?d_num ?d_seq ?d_par ?d_nn ?d_rd ?d_sz ?d_su ?d_en ?d_sp ?d_be ?d_wi ?d_ap ?d_cl ?d_an ?d_rb ?d_re ?d_box ?d_take ?d_pick ?d_lr ?d_sm ?d_st ?d_ne ?d_rf ?a_so ?l_so ?c_so ?k_so ?a_asp ?l_asp ?c_asp ?k_asp ?a_apa ?l_apa ?c_apa ?k_apa ?a_lw ?l_lw ?c_lw ?k_lw ?d_cls ?q_MOST_VALUE ?z_isinstance ?z_int ?z_bool ?z_list ?z_tuple ?z_len ?z_range ?z_enumerate ?z_reversed ?z_all ?z_abs ?z_max ?z_min ?z_set ?z_repr ?z_any ?z_zip ?z_sum ?m_so ?h_so ?n_so ?m_asp ?h_asp ?n_asp ?m_apa ?h_apa ?n_apa ?m_lw ?h_lw ?n_lw ?ne01 ?ne02 ?ne03 ?ne12 ?ne13 ?ne23
    (case d_int => refine' K08.DefIn.mk ?a ?l ?c ?k; (case a => k_is); (case l => k_is); (case c => k_is); (case k => k_is))
    (case d_num => refine' K08.DefIn.mk ?a ?l ?c ?k; (case a => k_is); (case l => k_is); (case c => k_is); (case k => k_is))
    (case d_seq => refine' K08.DefIn.mk ?a ?l ?c ?k; (case a => k_is); (case l => k_is); (case c => k_is); (case k => k_is))
    (case d_par => refine' K08.DefIn.mk ?a ?l ?c ?k; (case a => k_is); (case l => k_is); (case c => k_is); (case k => k_is))
    (case d_nn => refine' K08.DefIn.mk ?a ?l ?c ?k; (case a => k_is); (case l => k_is); (case c => k_is); (case k => k_is))
    (case d_rd => refine' K08.DefIn.mk ?a ?l ?c ?k; (case a => k_is); (case l => k_is); (case c => k_is); (case k => k_is))
    (case d_sz => refine' K08.DefIn.mk ?a ?l ?c ?k; (case a => k_is); (case l => k_is); (case c => k_is); (case k => k_is))
    (case d_su => refine' K08.DefIn.mk ?a ?l ?c ?k; (case a => k_is); (case l => k_is); (case c => k_is); (case k => k_is))
    (case d_en => refine' K08.DefIn.mk ?a ?l ?c ?k; (case a => k_is); (case l => k_is); (case c => k_is); (case k => k_is))
    (case d_sp => refine' K08.DefIn.mk ?a ?l ?c ?k; (case a => k_is); (case l => k_is); (case c => k_is); (case k => k_is))
    (case d_be => refine' K08.DefIn.mk ?a ?l ?c ?k; (case a => k_is); (case l => k_is); (case c => k_is); (case k => k_is))
    (case d_wi => refine' K08.DefIn.mk ?a ?l ?c ?k; (case a => k_is); (case l => k_is); (case c => k_is); (case k => k_is))
    (case d_ap => refine' K08.DefIn.mk ?a ?l ?c ?k; (case a => k_is); (case l => k_is); (case c => k_is); (case k => k_is))
    (case d_cl => refine' K08.DefIn.mk ?a ?l ?c ?k; (case a => k_is); (case l => k_is); (case c => k_is); (case k => k_is))
    (case d_an => refine' K08.DefIn.mk ?a ?l ?c ?k; (case a => k_is); (case l => k_is); (case c => k_is); (case k => k_is))
    (case d_rb => refine' K08.DefIn.mk ?a ?l ?c ?k; (case a => k_is); (case l => k_is); (case c => k_is); (case k => k_is))
    (case d_re => refine' K08.DefIn.mk ?a ?l ?c ?k; (case a => k_is); (case l => k_is); (case c => k_is); (case k => k_is))
    (case d_box => refine' K08.DefIn.mk ?a ?l ?c ?k; (case a => k_is); (case l => k_is); (case c => k_is); (case k => k_is))
    (case d_take => refine' K08.DefIn.mk ?a ?l ?c ?k; (case a => k_is); (case l => k_is); (case c => k_is); (case k => k_is))
    (case d_pick => refine' K08.DefIn.mk ?a ?l ?c ?k; (case a => k_is); (case l => k_is); (case c => k_is); (case k => k_is))
    (case d_lr => refine' K08.DefIn.mk ?a ?l ?c ?k; (case a => k_is); (case l => k_is); (case c => k_is); (case k => k_is))
    (case d_sm => refine' K08.DefIn.mk ?a ?l ?c ?k; (case a => k_is); (case l => k_is); (case c => k_is); (case k => k_is))
    (case d_st => refine' K08.DefIn.mk ?a ?l ?c ?k; (case a => k_is); (case l => k_is); (case c => k_is); (case k => k_is))
    (case d_ne => refine' K08.DefIn.mk ?a ?l ?c ?k; (case a => k_is); (case l => k_is); (case c => k_is); (case k => k_is))
    (case d_rf => refine' K08.DefIn.mk ?a ?l ?c ?k; (case a => k_is); (case l => k_is); (case c => k_is); (case k => k_is))
    (case a_so => k_is)
    (case l_so => k_is)
    (case c_so => k_is)
    (case k_so => k_is)
    (case a_asp => k_is)
    (case l_asp => k_is)
    (case c_asp => k_is)
    (case k_asp => k_is)
    (case a_apa => k_is)
    (case l_apa => k_is)
    (case c_apa => k_is)
    (case k_apa => k_is)
    (case a_lw => k_is)
    (case l_lw => k_is)
    (case c_lw => k_is)
    (case k_lw => k_is)
    (case d_cls => refine' K08.ClsIn.mk ?aR ?aF ?h ?r ?sa ?ex ?ty ?k ?ini ?tI ?hg ?hk ?hd ?ha ?hn ?ht ?hm ?no ?l ?c ?kI ?kit ?sb; (case aR => k_is); (case aF => k_is); (case h => k_is); (case r => first | rfl | kernel_rfl | decide +kernel); (case sa => k_is); (case ex => k_is); (case ty => k_is); (case k => k_is); (case ini => k_is); (case tI => k_is); (case hg => k_is); (case hk => k_is); (case hd => k_is); (case ha => k_is); (case hn => k_is); (case ht => k_is); (case hm => k_is); (case no => k_is); (case l => k_is); (case c => k_is); (case kI => k_is); (case kit => first | rfl | kernel_rfl | decide +kernel); (case sb => k_is))
    (case q_MOST_VALUE => refine' K08.cst_mk ?e ?r; (case e => k_is); (case r => exact ⟨_, rfl⟩))
    (case z_isinstance => k_is)
    (case z_int => k_is)
    (case z_bool => k_is)
    (case z_list => k_is)
    (case z_tuple => k_is)
    (case z_len => k_is)
    (case z_range => k_is)
    (case z_enumerate => k_is)
    (case z_reversed => k_is)
    (case z_all => k_is)
    (case z_abs => k_is)
    (case z_max => k_is)
    (case z_min => k_is)
    (case z_set => k_is)
    (case z_repr => k_is)
    (case z_any => k_is)
    (case z_zip => k_is)
    (case z_sum => k_is)
    (case m_so => k_is)
    (case h_so => exact rfl)
    (case n_so => kernel_rfl)
    (case m_asp => k_is)
    (case h_asp => exact rfl)
    (case n_asp => kernel_rfl)
    (case m_apa => k_is)
    (case h_apa => exact rfl)
    (case n_apa => kernel_rfl)
    (case m_lw => k_is)
    (case h_lw => exact rfl)
    (case n_lw => kernel_rfl)
    (case ne01 => decide)
    (case ne02 => decide)
    (case ne03 => decide)
    (case ne12 => decide)
    (case ne13 => decide)
    (case ne23 => decide)
