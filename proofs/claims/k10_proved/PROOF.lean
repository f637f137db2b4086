import PyProof.Rows.All
import Wide.All
import OpenK.AllK
import Wide.FinOn
import HandS.ForMost
import HandS.IsInst
import HandS.AnyAll
import HandS.Evl
import PyProof.GenCompD
import PyProof.WalksMore
import HandS.EndTab
import PyProof.Rows.NestShow
import PyProof.ReprLen
import PyProof.ReprBulk
import KE.GoesMore
import HandS.Zip
import HandS.TryOnly
import HandS.Strs
import HandS.Wide
import HandS.Walk
import HandS.TupLe
import PySem.Challenge.RW_farstory_k10_whole_the_shape_hangs_on_tw
set_option Elab.async false
set_option linter.all false
set_option maxRecDepth 100000
set_option maxHeartbeats 4000000
/-! Pure expressions and pure defs, whatever runs around them; all(f(x) for x in e). -/
namespace Pu
open PySem PySem.Spec PyProof.Rows L2

/-- what stands in g stands in h -/
abbrev Ext (g h : Heap) : Prop := ∀ b o, g.get? b = some o → h.get? b = some o
/-- from any heap over g the expression is worth v, and what stood stays -/
def EV (P : Program) (w : World) (A : Around) (env : Env) (g : Heap) (e : Expr) (v : V) : Prop :=
  ∀ (s : Shared) (Q : Value → Shared → Prop) (E : Value → Shared → Prop), Ext g s.heap →
    (∀ u h' tk, RelV v u → Ext s.heap h' → Q u { s with heap := h', toks := tk }) → wpAny (model P w) A (eval e env) Q E s
/-- arguments -/
def EA (P : Program) (w : World) (A : Around) (env : Env) (g : Heap) (es : List Expr) (vs : List V) : Prop :=
  ∀ (pos : Pos) (s : Shared) (Q : List Value → Shared → Prop) (E : Value → Shared → Prop), Ext g s.heap →
    (∀ us h' tk, Vals vs us → Ext s.heap h' → Q us { s with heap := h', toks := tk }) → wpAny (model P w) A (spliced (backTo pos (starEach es env))) Q E s
/-- a pure def: called with vs at a heap over g it gives v -/
structure PF (P : Program) (w : World) (K : PySem.W.Frag) (mg : Str → Option Value) (base : Heap) (k : Nat) (f : Addr) (fd : FuncData) (ps : List Str) (sp : List V → Heap → V → Prop) : Prop where
  run : ∀ (A : Around) (s : Shared) (args : Args) (us : List Value) (vs : List V) (v : V) (R : Result → Shared → Prop), Room k A → Ext base s.heap → BindsTo s fd args (ps.zip us) → Vals vs us → vs.length = ps.length → sp vs s.heap v →
    (∀ u h' tk, RelV v u → Ext s.heap h' → R (.ok (.ret u)) { s with heap := h', toks := tk }) → codeAny (model P w) A (.call (.ref f) args) R s

/-- the frame of a pure body -/
structure FrP (K : PySem.W.Frag) (mg : Str → Option Value) (base : Heap) (A : Around) (env : Env) (g : Heap) : Prop where
  mod : L2.Mod K mg base
  ext : Ext base g
  kind : env.scope.kind = .function
  glob : env.globals = mainGlobals
  blt : env.builtins = builtinsNs
  hd : A.handled = none

section
variable {P : Program} {w : World} {K : PySem.W.Frag} {mg : Str → Option Value} {base : Heap} {A : Around} {env : Env} {g : Heap}
theorem ev_loc {x : Str} {pos : Pos} {m : Str → Option Value} {u : Value} {v : V} (F : FrP K mg base A env g) (hl : env.kindOf x = some .local) (hn : g.Ns env.locals m) (hm : m x = some u) (r : RelV v u)
    (hd : (x == ("__debug__" : Str)) = false := by decide) : EV P w A env g (.Name x pos) v := fun s Q E hx hQ =>
  wpAny_Name (wpAny_loadName_local F.kind hl (hn.keeps hx) hm (hQ u s.heap s.toks r fun _ _ e => e)) hd
theorem ev_int {i : Int} {k : Nat} {pos : Pos} : EV P w A env g (.Constant (.int i) k pos) (.int i) := fun s Q E hx hQ =>
  wpAny_Constant_int (hQ _ s.heap (s.toks + 1) ⟨_, rfl⟩ fun _ _ e => e)
theorem ev_blt {x : Str} {pos : Pos} {u : Value} {v : V} (F : FrP K mg base A env g) (hg : env.kindOf x = some .globalImplicit) (hm : mg x = none) (hv : bootBuiltins x = some u) (r : RelV v u) (hn : x ≠ "__name__" := by decide)
    (hd : (x == ("__debug__" : Str)) = false := by decide) : EV P w A env g (.Name x pos) v := fun s Q E hx hQ => by
  obtain ⟨mb, h1, h2⟩ := F.mod.blt
  have hb : Ext base s.heap := fun b o e => hx b o (F.ext b o e)
  exact Calls.Name_function_global F.kind hg (Calls.loadGlobal_builtin (by rw [F.glob]; exact F.mod.glob.keeps hb) hm (by rw [F.blt]; exact h1.keeps hb) ((h2 x hn).trans hv) (hQ u s.heap s.toks r fun _ _ e => e)) hd
theorem ev_and {a b : Expr} {rest : List Expr} {pos : Pos} {x y : Bool} (ha : EV P w A env g a (.bl x)) (hb : x = true → EV P w A env g (.BoolOp .And (b :: rest) pos) (.bl y)) :
    EV P w A env g (.BoolOp .And (a :: b :: rest) pos) (.bl (x && y)) := fun s Q E hx hQ => by
  refine BoolOp_and (ha s _ E hx fun u h' tk r hk => ?_)
  cases (show u = Value.bool x from r)
  refine wpAny_truthy_bool ?_
  cases x with
  | false => exact hQ _ h' tk rfl hk
  | true => exact hb rfl { s with heap := h', toks := tk } Q E (fun b o e => hk b o (hx b o e)) fun u h2 t2 r2 k2 => hQ u h2 t2 r2 fun b o e => k2 b o (hk b o e)
theorem ev_one {op : BoolOp} {a : Expr} {pos : Pos} {v : V} (h : EV P w A env g a v) : EV P w A env g (.BoolOp op [a] pos) v := fun s Q E hx hQ => BoolOp_one (h s Q E hx hQ)
theorem ev_not {a : Expr} {pos : Pos} {x : Bool} (ha : EV P w A env g a (.bl x)) : EV P w A env g (.UnaryOp .Not a pos) (.bl (!x)) := fun s Q E hx hQ => by
  refine UnaryOp_ (ha s _ E hx fun u h' tk r hk => ?_)
  cases (show u = Value.bool x from r)
  exact not_of (wpAny_truthy_bool (hQ _ h' tk rfl hk))
theorem ev_ge {a b : Expr} {pos : Pos} {i j : Int} (ha : EV P w A env g a (.int i)) (hb : EV P w A env g b (.int j)) (hm : behindInMarks .GtE b = false := by first | exact nobehind _ (by decide) (by decide) | rfl) :
    EV P w A env g (.Compare a [.GtE] [b] pos) (.bl (decide (i ≥ j))) := fun s Q E hx hQ => by
  refine wpAny_Compare1 (ha s _ E hx fun u h' tk r hk => ?_) hm
  refine hb { s with heap := h', toks := tk } _ E (fun b o e => hk b o (hx b o e)) fun u2 h2 t2 r2 k2 => ?_
  obtain ⟨t, rfl⟩ := r
  obtain ⟨t', rfl⟩ := r2
  exact ge_int (hQ _ h2 t2 rfl fun b o e => k2 b o (hk b o e))
theorem ev_eqI {a b : Expr} {pos : Pos} {i j : Int} (ha : EV P w A env g a (.int i)) (hb : EV P w A env g b (.int j)) (hm : behindInMarks .Eq b = false := by first | exact nobehind _ (by decide) (by decide) | rfl) :
    EV P w A env g (.Compare a [.Eq] [b] pos) (.bl (decide (i = j))) := fun s Q E hx hQ => by
  refine wpAny_Compare1 (ha s _ E hx fun u h' tk r hk => ?_) hm
  refine hb { s with heap := h', toks := tk } _ E (fun b o e => hk b o (hx b o e)) fun u2 h2 t2 r2 k2 => ?_
  obtain ⟨t, rfl⟩ := r
  obtain ⟨t', rfl⟩ := r2
  exact eq_int (by rw [Bool.beq_eq_decide_eq]; exact hQ _ h2 t2 rfl fun b o e => k2 b o (hk b o e))
theorem ea_nil : EA P w A env g [] [] := fun pos s Q E hx hQ => Calls.spliced_nil (hQ [] s.heap s.toks .nil fun _ _ e => e)
theorem ea_cons {e : Expr} {es : List Expr} {v : V} {vs : List V} (ha : EV P w A env g e v) (hr : EA P w A env g es vs) (hs : starEach (e :: es) env = (false, eval e env) :: starEach es env := by rfl) : EA P w A env g (e :: es) (v :: vs) := fun pos s Q E hx hQ => by
  rw [hs]
  show wpAny _ _ (spliced ((false, eval e env) :: backTo pos (starEach es env))) _ _ s
  refine Calls.spliced_cons (ha s _ E hx fun u h' tk r hk => ?_)
  exact hr pos { s with heap := h', toks := tk } _ E (fun b o e => hk b o (hx b o e)) fun us h2 t2 r2 k2 => hQ (u :: us) h2 t2 (.cons r r2) fun b o e => k2 b o (hk b o e)
/-- a built-in by its name -/
theorem ev_bltcall {id : String} {x : Str} {p pos : Pos} {e : Expr} {es : List Expr} {vs : List V} {z : V} (F : FrP K mg base A env g) (hg : env.kindOf x = some .globalImplicit) (hm : mg x = none) (hv : bootBuiltins x = some (.builtin id))
    (ha : EA P w A env g (e :: es) vs)
    (hc : ∀ (s : Shared) (us : List Value) (Q : Value → Shared → Prop) (E : Value → Shared → Prop), Ext g s.heap → Vals vs us → (∀ u h' tk, RelV z u → Ext s.heap h' → Q u { s with heap := h', toks := tk }) → wpAny (model P w) A (call (.builtin id) us) Q E s)
    (hn : x ≠ "__name__" := by decide) (hd : (x == ("__debug__" : Str)) = false := by decide)
    (he : starEach (e :: es) env = (false, eval e env) :: starEach es env := by rfl) (hpl : (backTo pos (starEach es env)).any (·.1) = false := by rfl) : EV P w A env g (.Call (.Name x p) (e :: es) [] pos) z := fun s Q E hx hQ => by
  obtain ⟨mb, h1, h2⟩ := F.mod.blt
  have hb : Ext base s.heap := fun b o e => hx b o (F.ext b o e)
  refine wpAny_Call_Name_kw (Calls.Name_function_global F.kind hg (Calls.loadGlobal_builtin (by rw [F.glob]; exact F.mod.glob.keeps hb) hm (by rw [F.blt]; exact h1.keeps hb) ((h2 x hn).trans hv) ?_) hd)
  refine PyProof.Rows.callWith_builtin1 (ha pos s _ E hx fun us h' tk r hk => ?_) he hpl
  exact hc { s with heap := h', toks := tk } us Q E (fun b o e => hk b o (hx b o e)) r fun u h2 t2 r2 k2 => hQ u h2 t2 r2 fun b o e => k2 b o (hk b o e)
/-- a pure def by its name -/
theorem ev_pf {k : Nat} {f : Addr} {fd : FuncData} {ps : List Str} {sp : List V → Heap → V → Prop} {x : Str} {p pos : Pos} {e : Expr} {es : List Expr} {vs : List V} {z : V} (F : FrP K mg base A env g) (G : PF P w K mg base k f fd ps sp) (hr : Room k A)
    (hg : env.kindOf x = some .globalImplicit) (hm : mg x = some (.ref f)) (hk : PySem.W.keepIn K (.ref f) = true) (hb : Binds K fd ps []) (ha : EA P w A env g (e :: es) vs) (hl : vs.length = ps.length)
    (hsp : ∀ h, Ext g h → sp vs h z) (hd : (x == ("__debug__" : Str)) = false := by decide)
    (he : starEach (e :: es) env = (false, eval e env) :: starEach es env := by rfl) (hpl : (backTo pos (starEach es env)).any (·.1) = false := by rfl) : EV P w A env g (.Call (.Name x p) (e :: es) [] pos) z := fun s Q E hx hQ => by
  have hbs : Ext base s.heap := fun b o e => hx b o (F.ext b o e)
  refine wpAny_Call_Name_kw (Calls.Name_function_global F.kind hg (Calls.loadGlobal_global (by rw [F.glob]; exact F.mod.glob.keeps hbs) hm ?_) hd)
  refine PySem.W.callWith_K (h₀ := base) F.mod.kin hk (ha pos s _ E hx fun us h' tk r hk2 => ?_) he hpl
  have hx2 : Ext g h' := fun b o e => hk2 b o (hx b o e)
  have hb2 : Ext base h' := fun b o e => hx2 b o (F.ext b o e)
  refine ⟨F.mod.kin.keeps hb2, ?_⟩
  show wpAny _ _ (call (.ref f) us) _ _ _
  have hlu : (us ++ []).length = ps.length := by rw [List.append_nil, ← r.length]; exact hl
  have hbind := hb { s with heap := h', toks := tk } us (F.mod.kin.keeps hb2) hlu
  rw [List.append_nil] at hbind
  refine wpAny_call (codeAny_mono (G.run A { s with heap := h', toks := tk } ⟨us, []⟩ us vs z (fun r s' => ∃ u h2 t2, r = .ok (.ret u) ∧ RelV z u ∧ Ext h' h2 ∧ s' = { s with heap := h2, toks := t2 }) hr hb2 hbind r hl (hsp h' hx2) fun u h2 t2 r2 k2 => ⟨u, h2, t2, rfl, r2, k2, rfl⟩) fun r s' hq => ?_)
  obtain ⟨u, h2, t2, rfl, r2, k2, rfl⟩ := hq
  exact hQ u h2 t2 r2 fun b o e => k2 b o (hk2 b o e)
/-- a pure def of the text: its body is one return -/
theorem pf_ret {x qual : Str} {st : Stmt} {f : Addr} {fd : FuncData} {N ps : List Str} {k : Nat} {sp : List V → Heap → V → Prop} {e : Expr} {pos : Pos} (M : L2.Mod K mg base) (Fn : Fun K x qual st f fd) (S : FnScope N ps (defScope st)) (hst : defBody st = [.Return (some e) pos])
    (hloc : ∀ y ∈ ps, (defScope st).names.lookup y = some .local)
    (hbody : ∀ (cdv : Value) (A : Around) (L : Addr) (g : Heap) (us : List Value) (vs : List V) (v : V), Room k A → Ext base g → Vals vs us → vs.length = ps.length → sp vs g v →
      (∀ (i : Nat) (y : Str) (u : Value), ps[i]? = some y → us[i]? = some u → ∃ m, g.Ns (envOfC qual (defScope st) L f cdv).locals m ∧ m y = some u) → EV P w A (envOfC qual (defScope st) L f cdv) g e v)
    (hmono : ∀ vs g h v, Ext g h → sp vs g v → sp vs h v) : PF P w K mg base (k + 1) f fd ps sp := by
  obtain ⟨oc, od, kV, doc, pm, an, cdv, ct, osl, rfl, lk, hcd⟩ := Fn.ex
  refine ⟨fun A s args us vs v R hr hbs hb r hl hsp hR => ?_⟩
  have KX : K.In s.heap := M.kin.keeps hbs
  have lim : s.heap.NoLimit := M.nolimit.keeps hbs
  have ndP : ps.Nodup := by rw [← S.pre]; exact S.nd.sublist (List.take_sublist _ _)
  refine codeAny_call_function hr.depth (KX _ _ lk) rfl S.co S.gen rfl (PySem.W.codeRec_of KX hcd) (hb _ _ _ _ ?_)
  refine wpAny_newFunctionEnv_cells S.kind (fun ⟨n, z⟩ hy => .inl (hloc n (List.of_mem_zip hy).1)) fun env he s1 X => ?_
  subst he
  obtain ⟨h1, tk, e1, hk1⟩ := X.done
  refine ⟨lim.keeps X.toInCall.keep, codeAny_func ?_⟩
  rw [hst]
  refine wpAny_execs_cons (wpAny_Return_some ?_)
  have hns := X.toInCall.ns
  subst e1
  refine hbody cdv _ s.heap.objs.size h1 us vs v (hr.deeper _) (fun b o e => hk1 b o (hbs b o e)) r hl (hmono _ _ _ _ hk1 hsp) (fun i y u h2 h3 => ⟨_, hns, bindL_get ndP h2 h3 (hloc y (List.mem_of_getElem? h2))⟩) _ _ _ (fun _ _ e => e) fun u h' t' rv k' => ?_
  exact hR u h' t' rv fun b o e => k' b o (hk1 b o e)
end
end Pu

set_option Elab.async false
set_option linter.all false
set_option maxRecDepth 100000
set_option maxHeartbeats 4000000
/-! all(f(x) for x in e), e a tuple or a list, f(x) pure. -/
namespace Pu
open PySem PySem.Spec PyProof.Rows L2 GxR

section
variable {X : Cx} {pins : List (Addr × Obj)} {σ : L2.St} {H : Hp} {s : Shared}
/-- the walk of a tuple or a list, its iterator just made -/
theorem iter_any {A : Around} {a : Addr} {xs : List V} {Q : Value → Shared → Prop} {E : Value → Shared → Prop} (I : Inv X pins σ H s) (hq : SqT X.K H a xs ∨ SqL X.K H a xs)
    (hQ : ∀ (o : Obj) (its : List Value) (St : Nat → Heap → Prop), Vals xs its → a < s.heap.objs.size →
      (∀ B : Around, B.handled = none → Walks X.prog X.w B s.heap.objs.size [s.heap.objs.size, a] [s.heap.objs.size] its.toArray.size (fun i v => its.toArray[i]? = some v) St) →
      St 0 (s.heap.push o) → Q (.ref s.heap.objs.size) { s with heap := s.heap.push o }) : wpAny (model X.prog X.w) A (pyIter (.ref a)) Q E s := by
  rcases hq with hq | hq
  · obtain ⟨its, rv, p, hz⟩ := I.tuple hq
    have lt : a < s.heap.objs.size := p.lt
    have hne : a ≠ s.heap.objs.size := Nat.ne_of_lt lt
    refine wpAny_pyIter_tuple (show s.heap.IsTuple a its.toArray from p) ?_
    refine hQ _ its _ rv lt (fun B hB => Walks.tuple hB s.heap.objs.size a hne its.toArray) ⟨⟨_, Heap.get?_push_size _ rfl, rfl, rfl⟩, ?_⟩
    obtain ⟨o, ho, r⟩ := p
    exact ⟨o, Heap.get?_push_of_some _ ho, r⟩
  · obtain ⟨its, rv, p, hz⟩ := I.list hq
    obtain ⟨o1, n1, ho1, _⟩ := id p
    have lt : a < s.heap.objs.size := Heap.lt_size ho1
    have hne : a ≠ s.heap.objs.size := Nat.ne_of_lt lt
    refine wpAny_pyIter_list p.isList ?_
    refine hQ _ its _ rv lt (fun B hB => Walks.list hB s.heap.objs.size a hne its.toArray) ⟨⟨_, Heap.get?_push_size _ rfl, rfl, rfl⟩, ?_⟩
    exact (p.keeps fun b o e => Heap.get?_push_of_some _ e).isList

/-- the element's worth, item by item, from any frame of the generator -/
def Elt (X : Cx) (T : Addr) (sc : Scope) (x : Str) (elt : Expr) (k : Nat) (H1 : Hp) (xs : List V) (pb : Nat → Bool) : Prop :=
  ∀ (B : Around) (cenv : Env) (g : Heap) (i : Nat) (v : V) (u : Value), Room k B → cenv.scope = sc → cenv.globals = mainGlobals → cenv.builtins = builtinsNs → Ext X.base g →
    (∃ m, g.Ns cenv.locals m ∧ m x = some u) → xs[i]? = some v → RelV v u → (∀ b ho, b ≠ T → H1 b = some ho → ObjOk X.prog X.w H1 g b ho) → EV X.prog X.w B cenv g elt (.bl (pb i))
/-- a generator that is ready to be drawn from, n tests -/
def Drawn (X : Cx) (pins : List (Addr × Obj)) (σ : L2.St) (H1 : Hp) (T : Addr) (n : Nat) (pb : Nat → Bool) (g : Addr) (s5 : Shared) : Prop :=
  ∃ (fp wr : List Addr) (G : Array GenState → Array GenState → Prop) (F : Nat → Value → Prop) (St : Nat → Shared → Prop),
    WalksS X.prog X.w X.A.in1 g fp wr G n F St ∧ St 0 s5 ∧ TruthOf X.prog X.w X.A.in1 F pb ∧ ∀ s', Moved wr G s5 s' → ∃ H2, Tabbed T H1 H2 ∧ Inv X pins σ H2 s'

/-- the generator's code object, met already or made now: what is known of the heap behind it -/
theorem code_any {M : Model} {A : Around} {E : Value → Shared → Prop} {s : Shared} {env : Env} {c T : Addr} {ps : Array Value} {pos : Pos} {nm : Str} {sc : Scope} {Q : Value → Shared → Prop}
    (hc : env.code = .ref c) (hi : s.heap.IsCode c T ps) (ht : s.heap.TableAt c T ps) (ok : TriplesOk ps.toList) (hT : s.heap.get? T = some { cls := .none, data := .fields ps })
    (k : ∀ (code : Value) (h3 : Heap) (tk : Nat) (ps' : Array Value), Heap.ExtBut T s.heap h3 → s.heap.objs.size ≤ h3.objs.size → h3.get? T = some { cls := .none, data := .fields ps' } → (∃ more, ps' = ps ++ more) → TriplesOk ps'.toList →
      Q code { s with heap := h3, toks := tk }) : wpAny M A (genexprCode env pos nm sc) Q E s := by
  cases e : codeAmong pos ps.toList with
  | some old => exact wpAny_genexprCode_hit hc hi e (k old s.heap s.toks ps (Heap.ExtBut.refl _ _) (Nat.le_refl _) hT ⟨#[], by simp⟩ ok)
  | none =>
    refine wpAny_genexprCodeX hc hi ht e fun new h3 tk far lo hi' code' _ tab' _ => ?_
    have tr := code'
    obtain ⟨_, _, _, _, _, _, _, _, _, _, _, _, _, _, _, _, _, _, _, tr, _⟩ := tr
    exact k _ h3 tk _ far (by omega) tab'.2 ⟨_, rfl⟩ tr
theorem gen_seq {c T : Addr} {elt iter : Expr} {x : Str} {px gp : Pos} {sc : Scope} {te : TE} {k : Nat} {W : Value → Shared → Prop} {R : Hp → List V → (Nat → Bool) → Prop}
    (hr : Room (k + 1) X.A) (TB : TabB X.base X.mg c T) (hcode : X.env.code = .ref c) (S : GenS X.env sc x) (hi : PE X iter te) (hs : ∀ v, genFold iter X.env v = pure v) (I : Inv X pins σ H s)
    (h : te σ H fun v H1 => ∃ (a : Addr) (xs : List V) (pb : Nat → Bool), v = .ref a ∧ (SqT X.K H1 a xs ∨ SqL X.K H1 a xs) ∧ TabG H1 T ∧ Elt X T sc x elt k H1 xs pb ∧ R H1 xs pb)
    (hQ : ∀ H1 xs pb g s5, R H1 xs pb → Drawn X pins σ H1 T xs.length pb g s5 → W (.ref g) s5) :
    wpAny (model X.prog X.w) X.A (eval (.GeneratorExp elt [⟨.Name x px, iter, [], 0⟩] sc gp) X.env) W X.xe s := by
  refine wpAny_GeneratorExp_walksQD hr.hd S.co (closure_ok S.free) S.cell S.dot S.loc S.kind (by have := hr.dp; omega) ?_ hs
  refine thn (hi.run pins s σ H _ I h) fun xv s1 ⟨v, H1, I1, r1, q1⟩ => ?_
  obtain ⟨a, xs, pb, rfl, hsq, ⟨ps, hT, ht⟩, hel, hR⟩ := q1
  cases (show xv = Value.ref a from r1)
  refine iter_any I1 hsq fun o its St rv haLt Wk hst => ?_
  have hTs : s1.heap.get? T = some { cls := .none, data := .fields ps } := I1.hok T _ hT
  have hTlt : T < s1.heap.objs.size := Heap.lt_size hTs
  have hT2 : (s1.heap.push o).get? T = some { cls := .none, data := .fields ps } := Heap.get?_push_of_some _ hTs
  have push_keep : ∀ b u, s1.heap.get? b = some u → (s1.heap.push o).get? b = some u := fun b u e => Heap.get?_push_of_some _ e
  have cd : PySem.W.CodeHd (s1.heap.push o) c T := TB.code.keeps fun b u e => push_keep b u (I1.bk b u e)
  have lim2 : (s1.heap.push o).NoLimit := I1.nolimit.push o
  have noT : ∀ b u, X.base.get? b = some u → b ≠ T := fun b u e z => by
    have n := (I1.bs b u e).2
    rw [z, hT] at n
    cases n
  have hlen : its.toArray.size = xs.length := by rw [List.size_toArray, rv.length]
  refine ⟨lim2, code_any hcode (cd.code hT2 ht) (cd.tab hT2) ht hT2 fun code h3 tk ps' hx hsz hT3 hmore ht3 => ?_⟩
  obtain ⟨bm, ob, e1, e2, e3, e4, e5, e6, e7, e8⟩ := TB.bm
  have cneT : cStatics ≠ T := fun e => by
    obtain ⟨_, hns, _⟩ := I1.nolimit
    obtain ⟨o', es, ep, ho, hd, _⟩ := hns
    rw [e, hTs] at ho
    cases ho
    cases hd
  have cLt : cStatics < s1.heap.objs.size := let ⟨_, hns, _⟩ := I1.nolimit; hns.lt
  have sz2 : (s1.heap.push o).objs.size = s1.heap.objs.size + 1 := Heap.size_push ..
  have keep3 : ∀ b u, b ≠ T → s1.heap.get? b = some u → h3.get? b = some u := fun b u hb e => hx b u hb (push_keep b u e)
  refine wpAny_builtinsFor (m := X.mg) (by rw [I1.ok.glob]; exact ((I1.mod.glob.keeps I1.bk).push o).extBut hx TB.gP) e1 e2 (keep3 _ _ e4 (I1.bk _ _ e5)) e6 e7 e8 ?_
  have aneT : a ≠ T := fun z => by
    rcases hsq with q | q
    · rcases q with (q | ⟨_, q⟩) | ⟨_, _, _, hk, _⟩
      · rw [z, hT] at q; cases q
      · rw [z, hT] at q; cases q
      · exact noT a _ (I1.mod.kin a _ hk) z
    · rcases q with (q | ⟨_, q⟩) | ⟨_, _, _, hk, _⟩
      · rw [z, hT] at q; cases q
      · rw [z, hT] at q; cases q
      · exact noT a _ (I1.mod.kin a _ hk) z
  have sLt : s1.heap.objs.size < h3.objs.size := Nat.lt_of_lt_of_le (by rw [sz2]; exact Nat.lt_succ_self _) hsz
  have Wk2 : ∀ B : Around, B.handled = none → Walks X.prog X.w B s1.heap.objs.size [s1.heap.objs.size, a] [s1.heap.objs.size] xs.length (fun i v => its.toArray[i]? = some v) St := hlen ▸ Wk
  refine ⟨s1.heap.objs.size, [s1.heap.objs.size, a], [s1.heap.objs.size], xs.length, (fun i v => its.toArray[i]? = some v), St, (fun _ => true), (fun i y => y = .bool (pb i)), rfl, Wk2, ?_, ?_, lim2.extBut hx cneT, ?_, ?_, ?_⟩
  · refine (Wk2 X.A hr.hd).frame _ _ _ hst fun b hb u e => hx b u (fun z => ?_) e
    rcases List.mem_cons.mp hb with z2 | z2
    · exact Nat.ne_of_lt hTlt (z.symm.trans z2)
    · rcases List.mem_cons.mp z2 with z2 | z2
      · exact aneT (z2.symm.trans z)
      · cases z2
  · intro b hb
    show b < h3.objs.size
    rcases List.mem_cons.mp hb with z | z
    · rw [z]; exact sLt
    · rcases List.mem_cons.mp z with z | z
      · rw [z]; exact Nat.lt_trans haLt sLt
      · cases z
  · intro z
    rcases List.mem_cons.mp z with z | z
    · exact Nat.ne_of_lt cLt z
    · cases z
  · intro href hhref
    refine ⟨fun A' E' i v s₂ m₂ hA hD hU hPv hn hm hk => ?_, fun A' E' i v s₂ m₂ hA hD hU hPv hp hn hm hk => ?_⟩
    · simp only [List.forIn_nil]
      exact wpAny_pure ⟨rfl, keeps_refl _⟩
    · have hv2 : its[i]? = some v := by simpa using hPv
      have hi2 : i < xs.length := by
        have := (List.getElem?_eq_some_iff.mp hv2).1
        rw [rv.length]; exact this
      obtain ⟨u, hu, ru⟩ := rv.get (List.getElem?_eq_getElem hi2)
      have euv : u = v := Option.some.inj (hu.symm.trans hv2)
      subst euv
      have ob2 : ∀ b w', b ≠ T → s1.heap.get? b = some w' → s₂.heap.get? b = some w' := fun b w' hb e => by
        have l1 := Heap.lt_size e
        have e3 := keep3 b w' hb e
        refine hk b (List.mem_range.mpr (Heap.lt_size e3)) (fun z => ?_) _ (hhref _ _ e3)
        rcases List.mem_cons.mp z with z | z
        · exact Nat.ne_of_lt l1 z
        · cases z
      have rm : Room k A' := ⟨hA, by have := hr.dp; omega, by have := hr.un; omega⟩
      refine hel A' (genEnv sc (cloFrom X.env.cells sc.names []) h3.objs.size code builtinsNs X.env) s₂.heap i _ u rm rfl I1.ok.glob rfl (fun b w' e => ob2 b w' (noT b w' e) (I1.bk b w' e)) ⟨m₂, hn, hm⟩ (List.getElem?_eq_getElem hi2) ru (fun b ho hb e => ?_) s₂ _ _ (fun _ _ e => e) fun y h' tk' ry hk' => ?_
      · refine (I1.hok b ho e).stay (fun d w' hd q => ob2 d w' ?_ q) (fun _ q => q) fun _ _ q => q
        rcases hd with z | z
        · rw [z]; exact hb
        · intro z2
          rw [z2, hT] at z
          cases z
      · exact ⟨ry, h', tk', rfl, hk'⟩
  · intro g h5 tk5 gs hgb hag hsz5 hk5 W5 hat
    simp only [GxR.passing_true, List.length_range] at W5
    refine hQ H1 xs pb g _ hR ⟨_, _, _, _, _, W5.in4_1, hat, ?_, fun s' hm => ?_⟩
    · intro j y sj Qj Ej hy hQj
      obtain ⟨i, hij, rfl⟩ := hy
      obtain ⟨hj, ej⟩ := List.getElem?_eq_some_iff.mp hij
      rw [List.getElem_range] at ej
      subst ej
      exact wpAny_truthy_bool hQj
    · obtain ⟨more, em⟩ := hmore
      have nwr : ∀ b u, s1.heap.get? b = some u → b ∉ h3.objs.size :: [s1.heap.objs.size] := fun b u e hb => by
        have hl := Heap.lt_size e
        rcases List.mem_cons.mp hb with z | z
        · have h9 : b = h3.objs.size := z
          have : b < s1.heap.objs.size := hl
          rw [h9] at this
          have h10 : h3.objs.size < s1.heap.objs.size := this
          omega
        · rcases List.mem_cons.mp z with z | z
          · rw [z] at hl
            exact Nat.lt_irrefl _ hl
          · cases z
      have J := inv_tab (more := more) (h' := s'.heap) (g' := s'.gens) (d' := s'.drawn) (t' := s'.toks) I1 hT (fun b u hb e => hm.heap b u (nwr b u e) (hk5 b u (keep3 b u hb e)))
        (by rw [← em]; exact hm.heap T _ (nwr T _ hTs) (hk5 T _ hT3)) (AllBare.movedS (I1.bare.push hgb) hm)
      rw [sh_eta s1 s' hm.os] at J
      exact ⟨upd H1 T (.tbl (ps ++ more)), ⟨⟨ps ++ more, upd_same, by rw [← em]; exact ht3⟩, fun b hb => upd_ne hb⟩, J⟩

/-- all(test for x in e): the reading -/
def tAllQ (X : Cx) (T : Addr) (sc : Scope) (x : Str) (elt : Expr) (k : Nat) (te : TE) : TE := fun σ H Q => te σ H fun v H1 => ∃ (a : Addr) (xs : List V) (pb : Nat → Bool),
  v = .ref a ∧ (SqT X.K H1 a xs ∨ SqL X.K H1 a xs) ∧ TabG H1 T ∧ Elt X T sc x elt k H1 xs pb ∧ ∀ H2, Tabbed T H1 H2 → Q (.bl ((List.range xs.length).all pb)) H2
theorem pe_allQ {c T : Addr} {elt iter : Expr} {x : Str} {px p pos gp : Pos} {sc : Scope} {te : TE} {k : Nat} (hr : Room (k + 1) X.A) (hg : Gl X "all") (hm : X.mg "all" = none) (TB : TabB X.base X.mg c T) (hcode : X.env.code = .ref c)
    (S : GenS X.env sc x) (hi : PE X iter te) (hb : bootBuiltins "all" = some (.builtin "all") := by decide +kernel) (hs : ∀ v, genFold iter X.env v = pure v := by intro _; rfl)
    (he : starEach [.GeneratorExp elt [⟨.Name x px, iter, [], 0⟩] sc gp] X.env = (false, eval (.GeneratorExp elt [⟨.Name x px, iter, [], 0⟩] sc gp) X.env) :: starEach [] X.env := by rfl) :
    PE X (.Call (.Name "all" p) [.GeneratorExp elt [⟨.Name x px, iter, [], 0⟩] sc gp] [] pos) (tAllQ X T sc x elt k te) := by
  refine ⟨fun pins s σ H Q I h => wpAny_Call_Name_kw (ld_blt I hg hm hb (PyProof.Rows.callWith_builtin1 ?_ he (by rfl)))⟩
  rw [he]
  show wpAny _ _ (spliced ((false, eval (.GeneratorExp elt [⟨.Name x px, iter, [], 0⟩] sc gp) X.env) :: backTo pos (starEach [] X.env))) _ _ s
  refine Calls.spliced_cons (gen_seq (R := fun H1 xs pb => ∀ H2, Tabbed T H1 H2 → Q (.bl ((List.range xs.length).all pb)) H2) hr TB hcode S hi hs I h fun H1 xs pb g s5 hR hG => ?_)
  obtain ⟨fp, wr, G, F, St, Wk, hst, htr, hI⟩ := hG
  refine Calls.spliced_nil (call_all_walkS (Wk.self 0 _ _ _ hst ⟨g, fp, wr, G, _, F, St, _, rfl, Wk, hst, htr, fun s' hmv => ?_⟩))
  obtain ⟨H2, hT, J⟩ := hI s' hmv
  exact ⟨.bl _, H2, J, rfl, hR H2 hT⟩
end
end Pu

set_option Elab.async false
set_option linter.all false
set_option maxRecDepth 100000
set_option maxHeartbeats 4000000
/-! repr of data; a law's end where repr is asked. -/
namespace Pu
open PySem PySem.Spec PyProof.Rows L2 GxR

/-- the list or tuple d, shown -/
def rRepr (K : PySem.W.Frag) : List V → Hp → VK → Prop := fun vs H Q => ∃ (v : V) (d : PyData), vs = [v] ∧ Dp K H v d ∧ isDisplay d = true ∧ d.showable = true ∧ d.hasDict = false ∧ d.depth ≤ 60 ∧ d.shown.length ≤ sizeLine ∧ Q (.str d.shown) H
theorem cr_repr {X : Cx} (hu : X.A.units + 64 < cLine) (hg : X.A.guards = some []) : CallR X (.builtin "repr") (rRepr X.K) := by
  intro pins s σ H vs us Q I r h
  obtain ⟨v, d, rfl, hd, hi, hs, hn, hz, hl, q⟩ := h
  obtain ⟨u, rfl, rv⟩ := vals1 r
  obtain ⟨as, rd⟩ := Dp.reads I d v u hd rv
  obtain ⟨a, rfl⟩ := isRef_of_reads rd hi
  exact repr_of_reads' rd hs (PyData.noDict_hsm hn) hg (by omega) (fun _ _ e => e) (fun h' t tk hk => ⟨.str d.shown, H, I.kept hk, ⟨t, rfl⟩, q⟩) hl

/-- a def of the text whose code object is known -/
structure FunC (K : PySem.W.Frag) (x qual : Str) (st : Stmt) (f : Addr) (fd : FuncData) (c : Addr) : Prop where
  ex : ∃ (oc : Value) (od : Option Addr) (kV doc pm : Value) (an : Option Addr) (ct : Value) (osl : Array (Option Value)),
    fd = PySem.W.fnOf x qual (defArgs st) (defBody st) (defScope st) .none kV doc pm an (.ref c) ct ∧ K.lookup f = some ⟨oc, od, .func fd, osl⟩ ∧ PySem.W.codeIn K (.ref c) qual = true
  kp : PySem.W.keepIn K (.ref f) = true
theorem FunC.ok {P : Program} {w : World} {K : PySem.W.Frag} {mg : Str → Option Value} {base : Heap} {x qual : Str} {st : Stmt} {f c : Addr} {fd : FuncData} {N ps : List Str} {k : Nat} {sp : Sp} (F : FunC K x qual st f fd c) (S : FnScope N ps (defScope st))
    (len : ∀ vs H Q E, sp vs H Q E → vs.length = ps.length)
    (hbody : ∀ (A : Around) (outer : List Env) (s : Shared) (H : Hp) (vs : List V) (Q : VK) (E : XK), Room k (A.deeper (envOfC qual (defScope st) s.heap.objs.size f (.ref c))) → sp vs H Q E →
      ∃ t, PSs (cxOf CX0 P w K mg base N qual (defScope st) f (.ref c) A outer s H E).nox (defBody st) t ∧ t { nx := fun _ H' => Q .non H', rt := Q } (start N vs) H) : FnOk P w K mg base CX0 (k + 1) f fd ps sp := by
  obtain ⟨oc, od, kV, doc, pm, an, ct, osl, rfl, lk, hcd⟩ := F.ex
  refine fn_of lk hcd S len fun A outer s H vs Q E hr hsp => ?_
  obtain ⟨t, h, q⟩ := hbody A outer s H vs Q E hr hsp
  exact ⟨t, h.nox, q⟩
theorem FunC.fn {K : PySem.W.Frag} {x qual : Str} {st : Stmt} {f c : Addr} {fd : FuncData} (F : FunC K x qual st f fd c) : Fun K x qual st f fd := by
  obtain ⟨oc, od, kV, doc, pm, an, ct, osl, e, lk, hcd⟩ := F.ex
  exact ⟨⟨oc, od, kV, doc, pm, an, .ref c, ct, osl, e, lk, hcd⟩, F.kp⟩

section
variable {P : Program} {w : World} {K : PySem.W.Frag} {mg mb : Str → Option Value} {fa a : Addr} {cs : List (Addr × Addr)} {fd : FuncData} {N : List Str} {x : Str} {st : Stmt} {s₁ : Shared} {vs : List Value} {ns : List Int}
/-- what a law's body is asked: from any base and state, at the caller that the claim names -/
def BodyOk (P : Program) (w : World) (K : PySem.W.Frag) (mg : Str → Option Value) (cs : List (Addr × Addr)) (N : List Str) (st : Stmt) (fa a : Addr) (ns : List Int) : Prop :=
  ∀ (base : Heap) (cdv : Value) (s : Shared) (H : Hp), L2.Mod K mg base → (∀ p ∈ cs, TabB base mg p.1 p.2) → (∀ p ∈ cs, H p.2 = some (.tbl #[])) → SqL K H a (ns.map V.int) →
    ∃ t, PSs (cxOf CX0 P w K mg base N "law" (defScope st) fa cdv callerA [] s H E0).nox (defBody st) t ∧ t { nx := fun _ _ => False, rt := fun v _ => v = .bl true } (start N [.ref a]) H
/-- from a heap that is told by H -/
theorem law_from {H : Hp} (Fn : Fun K "law" "law" st fa fd) (S : FnScope N [x] (defScope st)) (hbind : ∀ (s : Shared) (u : Value), BindsTo s fd ⟨[u], []⟩ [(x, u)]) (hr : Room 9 callerA)
    (B : BodyOk P w K mg cs N st fa a ns) (base : Heap) (M : L2.Mod K mg base) (hT : ∀ p ∈ cs, TabB base mg p.1 p.2) (hH : ∀ p ∈ cs, H p.2 = some (.tbl #[])) (hS : SqL K H a (ns.map V.int))
    (e0 : Env0 P w K mg base callerA [] s₁ H) :
    codeAny (model P w) callerA (.call (.ref fa) ⟨[.ref a], []⟩) (fun r s' => ∃ H', r = .ok (.ret (.bool true)) ∧ s'.os = s₁.os ∧ AllBare s'.gens ∧ Un [] [] H H' s₁.heap s'.heap ∧ HOk P w H' s'.heap) s₁ := by
  obtain ⟨oc, od, kV, doc, pm, an, cdv, ct, osl, rfl, lk, hcd⟩ := Fn.ex
  obtain ⟨t, ht, hq⟩ := B base cdv s₁ H M hT hH hS
  have KX : K.In s₁.heap := M.kin.keeps fun b o e => (e0.bs b o e).1
  have lim : s₁.heap.NoLimit := M.nolimit.keeps fun b o e => (e0.bs b o e).1
  have kinds : ∀ y ∈ [x].zip [Value.ref a], (defScope st).names.lookup y.1 = some .local ∨ ((defScope st).names.lookup y.1 = some .cell ∧ ((cellsFrom (s₁.heap.objs.size + 1) (defScope st).names []).lookup y.1).isSome = true) := fun ⟨n, v⟩ hy => by
    rcases S.par n (List.of_mem_zip hy).1 with q | q
    · exact .inl q
    · exact .inr ⟨q, PySem.W.cellsFrom_some _ _ _ (.inl q)⟩
  refine codeAny_call_function hr.depth (KX _ _ lk) rfl S.co S.gen rfl (PySem.W.codeRec_of KX hcd) (hbind s₁ (.ref a) _ _ _ _ ?_)
  refine wpAny_newFunctionEnv_cells S.kind kinds fun env he s1 X => ?_
  subst he
  refine ⟨lim.keeps X.toInCall.keep, codeAny_func ?_⟩
  have I : Inv (cxOf CX0 P w K mg base N "law" (defScope st) fa cdv callerA [] s₁ H E0) [] (start N [.ref a]) H s1 := inv_start (ps := [x]) (us := [.ref a]) S hr.hd e0 rfl (.cons rfl .nil) X
  refine wpAny_mono (ht.run [] s1 (start N [.ref a]) H _ (I.wish _) hq) (fun fl s' hs => ?_) fun e s' hs => hs.elim
  cases fl with
  | ret u =>
    obtain ⟨v, σ', H', J, rv, q⟩ := hs
    have q2 : v = .bl true := q
    subst q2
    obtain rfl : u = Value.bool true := rv
    exact ⟨H', rfl, J.os, J.bare, J.base, J.hok⟩
  | next =>
    obtain ⟨_, _, _, q⟩ := hs
    exact q.elim
  | brk =>
    obtain ⟨_, _, _, q⟩ := hs
    exact False.elim q
  | cont =>
    obtain ⟨_, _, _, q⟩ := hs
    exact False.elim q

/-- the law's call at the list a ends with True, and what was there is there still -/
abbrev SaysTrue (P : Program) (w : World) (fa a : Addr) (s : Shared) : Prop :=
  codeAny (model P w) callerA (.call (.ref fa) ⟨[.ref a], []⟩) (fun res t => res = .ok (.ret (.bool true)) ∧ OldK s.heap t.heap ∧ t.os = s.os ∧ AllBare t.gens) s
/-- code objects with their tables, all empty yet and none of K -/
def Bare (cs : List (Addr × Addr)) (K : PySem.W.Frag) (h : Heap) : Prop := ∀ p ∈ cs, (h.get? p.2 = some { cls := .none, data := .fields #[] } ∧ K.lookup p.2 = none) ∧ PySem.W.CodeHd h p.1 p.2
/-- the module of the builtins, where the main text finds it -/
def BltMod (mg : Str → Option Value) (h : Heap) : Prop := ∃ m : Addr, ∃ o : Obj, mg "__builtins__" = some (.ref m) ∧ m ≠ builtinsNs ∧ h.get? m = some o ∧ o.cls = .type "module" ∧ o.dict = some builtinsNs ∧ o.data = .plain
/-- the whole end: the heap as it stands behind the top -/
theorem law_end (KX : K.In s₁.heap) (hns : s₁.heap.Ns mainGlobals mg) (hb : s₁.heap.Ns builtinsNs mb) (hbb : ∀ x : Str, x ≠ "__name__" → mb x = bootBuiltins x) (hlim : s₁.heap.NoLimit) (hg : s₁.gens = #[])
    (hcs : Bare cs K s₁.heap) (hbm : BltMod mg s₁.heap)
    (ha : s₁.heap.get? a = some { cls := .type "list", data := .seq vs.toArray }) (hi : IntsAre vs ns) (hl : ns.length ≤ sizeLine)
    (Fn : Fun K "law" "law" st fa fd) (S : FnScope N [x] (defScope st)) (hbind : ∀ (s : Shared) (u : Value), BindsTo s fd ⟨[u], []⟩ [(x, u)]) (hr : Room 9 callerA) (B : BodyOk P w K mg cs N st fa a ns) :
    SaysTrue P w fa a s₁ := by
  have hT := fun p hp => (hcs p hp).1.1
  have nT := fun p hp => (hcs p hp).1.2
  have C := fun p hp => (hcs p hp).2
  -- the tables, the script
  let Ts := cs.map (·.2)
  have tab : ∀ b, b ∈ Ts → s₁.heap.get? b = some { cls := .none, data := .fields #[] } := fun b h => by
    obtain ⟨p, hp, rfl⟩ := List.mem_map.mp h
    exact hT p hp
  have inT : ∀ p ∈ cs, p.2 ∈ Ts := fun p hp => List.mem_map.mpr ⟨p, hp, rfl⟩
  have aNot : a ∉ Ts := fun z => by
    have q := (tab a z).symm.trans ha
    cases congrArg Obj.data (Option.some.inj q)
  have rv := vals_ints hi
  have frame : ∀ (u : Option HO), (u = none ∨ u = some (.frz { cls := .type "list", data := .seq vs.toArray } (.lst (ns.map V.int)))) → (u ≠ none → K.lookup a = none) →
      SqL K (fun b => if b = a then u else if b ∈ Ts then some (.tbl #[]) else none) a (ns.map V.int) →
      SaysTrue P w fa a s₁ := by
    intro u hu hKa hS
    generalize hHdef : (fun b => if b = a then u else if b ∈ Ts then some (HO.tbl #[]) else none : Hp) = H at hS
    have Ha : H a = u := by rw [← hHdef]; exact if_pos rfl
    have HT : ∀ b, b ∈ Ts → H b = some (.tbl #[]) := fun b h => by
      have nb : b ≠ a := fun z => aNot (z ▸ h)
      rw [← hHdef]
      exact (if_neg nb).trans (if_pos h)
    have HN : ∀ b, b ≠ a → b ∉ Ts → H b = none := fun b h1 h2 => by
      rw [← hHdef]
      exact (if_neg h1).trans (if_neg h2)
    have ok : HOk P w H s₁.heap := fun b o e => by
      by_cases h1 : b = a
      · subst h1
        rw [Ha] at e
        rcases hu with z | z
        · rw [z] at e; cases e
        · rw [z] at e
          cases e
          exact ⟨ha, by rw [List.length_map]; exact hl, vs, _, rv, ha⟩
      · by_cases h2 : b ∈ Ts
        · rw [HT b h2] at e
          cases e
          exact tab b h2
        · rw [HN b h1 h2] at e; cases e
    -- what is neither a list nor an empty table is not tracked
    have plain : ∀ {b : Addr} {o : Obj}, s₁.heap.get? b = some o → (∀ q n, o.data ≠ .seq q n) → o.data ≠ .fields #[] → H b = none := fun {b o} e h1 h2 => by
      refine HN b (fun z => ?_) fun z => ?_
      · rw [z, ha] at e
        cases e
        exact h1 _ _ rfl
      · rw [tab b z] at e
        cases e
        exact h2 rfl
    have dct : ∀ {b : Addr} {o : Obj} {es : Array DictEntry} {ep : Nat}, s₁.heap.get? b = some o → o.data = .dict es ep → H b = none := fun e d =>
      plain e (fun q n z => by rw [d] at z; cases z) fun z => by rw [d] at z; cases z
    have bg : ∀ {b : Addr} {o : Obj}, s₁.heap.get? b = some o → H b = none → (hidT s₁.heap H).get? b = some o := fun e n => hidT_get e n
    have nsB : ∀ {b : Addr} {m : Str → Option Value}, s₁.heap.Ns b m → (hidT s₁.heap H).Ns b m := fun ⟨o, es, ep, e, d, r⟩ => ⟨o, es, ep, bg e (dct e d), d, r⟩
    have KB : K.In (hidT s₁.heap H) := fun b o e => by
      refine bg (KX b o e) ?_
      by_cases h1 : b = a
      · rw [h1, Ha]
        rcases hu with z | z
        · exact z
        · have := hKa (by rw [z]; simp)
          rw [← h1, e] at this
          cases this
      · refine HN b h1 fun h2 => ?_
        obtain ⟨p, hp, ep⟩ := List.mem_map.mp h2
        rw [← ep, nT p hp] at e
        cases e
    have M : L2.Mod K mg (hidT s₁.heap H) := ⟨KB, nsB hns, ⟨mb, nsB hb, hbb⟩, let ⟨mc, h1, h2⟩ := hlim; ⟨mc, nsB h1, h2⟩⟩
    have TB : ∀ p ∈ cs, TabB (hidT s₁.heap H) mg p.1 p.2 := fun p hp => by
      have hTp := hT p hp
      refine ⟨?_, ?_, fun z => ?_⟩
      · obtain ⟨o, us, file, tf, flags, tg, inF, text, tt, e1, r1, r2, r3, r⟩ := C p hp
        refine ⟨o, us, file, tf, flags, tg, inF, text, tt, bg e1 (plain e1 (fun q n z => ?_) fun z => ?_), r1, r2, r3, r⟩
        · rw [r2] at z; cases z
        · rw [r2] at z
          cases z
          simp at r3
      · obtain ⟨bm, ob, b1, b2, b3, b4, b5, b6⟩ := hbm
        have nG : bm ≠ mainGlobals := fun q => by
          obtain ⟨o, es, ep, e, hd, _⟩ := hns
          rw [q, e] at b3
          cases b3
          rw [hd] at b6
          cases b6
        have nP : bm ≠ p.2 := fun q => by
          rw [q, hTp] at b3
          cases b3
          cases b6
        exact ⟨bm, ob, b1, b2, nG, nP, bg b3 (plain b3 (fun q n z => by rw [b6] at z; cases z) fun z => by rw [b6] at z; cases z), b4, b5, b6⟩
      · obtain ⟨o, es, ep, e, hd, _⟩ := hns
        rw [z, hTp] at e
        cases e
        cases hd
    have e0 : Env0 P w K mg (hidT s₁.heap H) callerA [] s₁ H :=
      ⟨rfl, M, fun b o e => of_hidT e, Nat.le_of_eq (hidT_size _ _), trivial, fun b hb => absurd (show b ∈ ([] : List Addr) from hb) List.not_mem_nil, ok, .of_eq hg⟩
    refine codeAny_mono (law_from Fn S hbind hr B _ M TB (fun p hp => HT _ (inT p hp)) hS e0) fun r s' h => ?_
    obtain ⟨H', rfl, os, bare, un, ok'⟩ := h
    have same : ∀ b o, b ∉ Ts → s₁.heap.get? b = some o → s'.heap.get? b = some o := fun b o nb e => by
      by_cases h1 : b = a
      · rcases hu with z | z
        · exact un.keep b o e (by rw [h1, Ha, z]) (by simp) (by simp)
        · have z1 : H a = some (.frz { cls := .type "list", data := .seq vs.toArray } (.lst (ns.map V.int))) := Ha.trans z
          obtain ⟨e2, _⟩ := ok' a _ (un.frzs a _ _ z1)
          rw [h1] at e ⊢
          rw [ha] at e
          cases e
          exact e2
      · exact un.keep b o e (HN b h1 nb) (by simp) (by simp)
    have grown : ∀ b, b ∈ Ts → ∃ more : Array Value, s'.heap.get? b = some { cls := .none, data := .fields more } := fun b h => by
      obtain ⟨more, z⟩ := un.tbls b #[] (HT b h)
      exact ⟨_, ok' b _ z⟩
    refine ⟨rfl, ⟨fun b o e => ?_, fun b o e => ?_⟩, os, bare⟩
    · by_cases h : b ∈ Ts
      · obtain ⟨more, hm⟩ := grown b h
        obtain ⟨p, hp, rfl⟩ := List.mem_map.mp h
        rw [hT p hp] at e
        cases e
        exact .inr (.inl ⟨((C p hp).tab (hT p hp)).isCodeTable, rfl, #[], more, rfl, by rw [Array.empty_append]; exact hm⟩)
      · exact .inl (same b o h e)
    · by_cases h : b ∈ Ts
      · obtain ⟨more, hm⟩ := grown b h
        exact ⟨_, hm⟩
      · exact ⟨o, same b o h e⟩
  cases hk : K.lookup a with
  | some o =>
    have e := KX a o hk
    rw [ha] at e
    cases e
    refine frame none (.inl rfl) (fun h => (h rfl).elim) (.inr ⟨_, vs.toArray, _, hk, rfl, rfl, rfl, ?_, by simpa using rv⟩)
    rw [List.size_toArray, hi.length]
    exact hl
  | none => exact frame _ (.inr rfl) (fun _ => hk) (.inl (.inr ⟨_, if_pos rfl⟩))
end
end Pu

set_option Elab.async false
set_option linter.all false
set_option maxRecDepth 100000
set_option maxHeartbeats 4000000
/-! enumerate of a tuple; for over either; calls by keywords alone; len(set(ints)). -/
namespace Pu
open PySem PySem.Spec PyProof.Rows L2 GxR

theorem meets_enum_tup (l : Addr) (items : Array Value) (n : Nat) (dct : Option Addr) (sl : Array (Option Value)) :
    Meets (Builtin.«enumerate.__new__» ⟨[.type "enumerate", .ref l], []⟩) (fun _ R s => s.heap.get? l = some { cls := .type "tuple", dict := dct, data := .seq items n, slots := sl } ∧
      R (.ok (.ret (.ref (s.heap.push { cls := .type "tuple_iterator", data := .fields #[.ref l, .int 0 0] }).objs.size)))
        { s with heap := (s.heap.push { cls := .type "tuple_iterator", data := .fields #[.ref l, .int 0 0] }).push { cls := .type "enumerate", data := .fields #[.none, .bool false, .ref s.heap.objs.size, rawInt 0, .none, .none] } }) :=
  .of_wp fun prog w A R s h => by
    obtain ⟨hp, g, d, tk, os⟩ := s
    obtain ⟨hl, h⟩ := h
    have sub := sub_enumerate
    have hL : Heap.IsTuple (Shared.heap ⟨hp, g, d, tk, os⟩) l items := ⟨_, hl, rfl, n, rfl⟩
    wp_walk using wpAny_loadPart' hl
    refine wpAny_stack_any fun st => wpAny_pure ?_
    split
    · rename_i c _ _ _ _ _
      cases (c == Value.type "enumerate")
      all_goals
        wp_walk using wpAny_loadPart' hl, wpAny_pyIter_tuple hL
        exact ⟨_, rfl, h⟩
    · wp_walk using wpAny_loadPart' hl, wpAny_pyIter_tuple hL
      exact ⟨_, rfl, h⟩

section
variable {prog : Program} {w : World} {A : Around} {E : Value → Shared → Prop} {s : Shared}
theorem call_enum_tup {t : Addr} {items : Array Value} {Q : Value → Shared → Prop} (hL : s.heap.IsTuple t items)
    (h : ∀ h', IsEnum h' (s.heap.objs.size + 1) s.heap.objs.size 0 .none → h'.IsTupleIter s.heap.objs.size t 0 → (∀ b o, s.heap.get? b = some o → h'.get? b = some o) → Q (.ref (s.heap.objs.size + 1)) { s with heap := h' }) :
    wpAny (model prog w) A (call (.type "enumerate") [.ref t]) Q E s := by
  obtain ⟨⟨c, dct, dt, sl⟩, hl, hc, n, hd⟩ := hL
  have hc2 : c = .type "tuple" := hc
  have hd2 : dt = .seq items n := hd
  subst hc2 hd2
  refine callType_new F.called_enumerate (by decide) (F.typeCall_enumerate_1 _) (F.newCall_enumerate_1 _) (fun obj => F.args_object_init_2 obj _) F.entry_enumerate_new (meets_enum_tup t items n dct sl) ⟨hl, ?_⟩
  have hz : (s.heap.push { cls := .type "tuple_iterator", data := .fields #[.ref t, .int 0 0] }).objs.size = s.heap.objs.size + 1 := Heap.size_push ..
  show _ ∧ _
  rw [hz]
  have he : IsEnum ((s.heap.push { cls := .type "tuple_iterator", data := .fields #[.ref t, .int 0 0] }).push
      { cls := .type "enumerate", data := .fields #[.none, .bool false, .ref s.heap.objs.size, rawInt 0, .none, .none] }) (s.heap.objs.size + 1) s.heap.objs.size 0 .none := by
    have q := Heap.get?_push_size (s.heap.push { cls := .type "tuple_iterator", data := .fields #[.ref t, .int 0 0] })
      (o := { cls := .type "enumerate", data := .fields #[.none, .bool false, .ref s.heap.objs.size, rawInt 0, .none, .none] }) rfl
    rw [hz] at q
    exact q
  exact ⟨⟨_, he, rfl⟩, h _ he ⟨_, Heap.get?_push_of_some _ (Heap.get?_push_size _ rfl), rfl, rfl⟩ fun b o x => Heap.get?_push_of_some _ (Heap.get?_push_of_some _ x)⟩
end
/-- the tuple at a as it stands at each turn, each item in a new pair -/
def Ite2 (K : PySem.W.Frag) (a : Addr) : It :=
  ⟨fun i H => ∃ (xs : List V) (x : V), SqT K H a xs ∧ xs[i]? = some x,
    fun i H v H' => ∃ T x, v = .ref T ∧ H T = none ∧ H' = upd H T (.tup [.int (i : Nat), x]) ∧ ∀ xs, SqT K H a xs → xs[i]? = some x,
    fun i H => ∃ xs : List V, SqT K H a xs ∧ xs.length = i⟩
theorem turn_enumT {P : Program} {w : World} {K : PySem.W.Frag} {elts : List Expr} {kk : Nat} {tpos : Pos} (a e it : Addr) (hat : a ≠ it) (hae : a ≠ e) :
    Turn P w K (.Tuple elts kk tpos) (Ite2 K a) [e, it] e (fun i h => (∃ old, IsEnum h e it ((i : Nat) : Int) old) ∧ h.IsTupleIter it a i ∧ e ≠ it) where
  mem := by simp
  obj := fun i h st b hb => by
    obtain ⟨⟨old, he⟩, ⟨o, ho, hc, hd⟩, _⟩ := st
    rcases List.mem_cons.mp hb with z | z
    · rw [z]
      exact ⟨_, he, fun v q => nomatch q⟩
    · rw [List.mem_singleton.mp z]
      exact ⟨o, ho, fun v q => by rw [hd] at q; cases q⟩
  keep := fun i h h' st k => by
    obtain ⟨⟨old, he⟩, hi, hne⟩ := st
    exact ⟨⟨old, k e (by simp) _ he⟩, hi.at fun o q => k it (by simp) o q, hne⟩
  item := by
    intro X hP hw hK hc i pins s σ H E I hf st hg
    subst hP hw hK
    obtain ⟨⟨old, he⟩, hit, hne⟩ := st
    obtain ⟨xs, x, hq, hx⟩ := hg
    obtain ⟨its, rv, p, hz⟩ := I.tuple hq
    obtain ⟨u, hu, ru⟩ := rv.get hx
    have hel : e < s.heap.objs.size := Heap.lt_size he
    have hil : it < s.heap.objs.size := by
      obtain ⟨_, q, _⟩ := hit
      exact Heap.lt_size q
    have hd : X.A.handled = none := I.ok.hd hc
    have hlt : i < its.toArray.size := by
      rw [List.size_toArray]
      exact (List.getElem?_eq_some_iff.mp hu).1
    refine wpAny_pyNext_enum_itemD (Draws.tuple (A := X.A.in1) hd it a hat its.toArray) he ⟨hit, p⟩ hlt hne (by simp [hne, Ne.symm hae]) fun x' h' tk hP ho st' hT hsz hk => ?_
    have ex : x' = u := by
      have q : its.toArray[i]? = some x' := hP
      rw [List.getElem?_toArray, hu] at q
      exact (Option.some.inj q).symm
    subst ex
    refine ⟨_, rfl, wpAny_letOwnedTupleGo_enum (s := { s with heap := h', toks := tk + 1 }) ho fun h'' he' sb => ?_⟩
    have hT2 : h''.get? s.heap.objs.size = some { cls := .type "tuple", data := .seq #[.int i tk, x'] } := (sb.2 _ (Nat.ne_of_gt hel)).trans hT
    have new : ObjOk X.prog X.w (upd H s.heap.objs.size (.tup [.int (i : Nat), x])) h'' s.heap.objs.size (.tup [.int (i : Nat), x]) :=
      ⟨by show 2 ≤ sizeLine; decide, [.int i tk, x'], .cons ⟨_, rfl⟩ (.cons ru .nil), ⟨_, hT2, rfl, _, rfl⟩⟩
    have I1 : Inv X pins σ (upd H s.heap.objs.size (.tup [.int (i : Nat), x])) { s with heap := h'', toks := tk + 1 } :=
      I.turnedNew (ch := [e, it]) (fun b ob hb q => (sb.2 b (fun z => hb (by simp [z]))).trans (hk b ob (fun z => hb (by simp [z])) (fun z => hb (by simp [z])) q)) hf (Nat.le_refl _) new
    refine ⟨.ref s.heap.objs.size, _, I1, rfl, ⟨_, x, rfl, I.hok.fresh (Nat.le_refl _), rfl, fun ys hy => by rw [I.tuple_inj hy hq]; exact hx⟩, ⟨⟨x', ?_⟩, st'.1.at fun o q => (sb.2 it (Ne.symm hne)).trans q, hne⟩, fun b hb => ?_⟩
    · have e1 : ((i + 1 : Nat) : Int) = (i : Int) + 1 := by omega
      rw [e1]
      exact he'
    · have hb2 : b < s.heap.objs.size := by
        rcases List.mem_cons.mp hb with z | z
        · rw [z]; exact hel
        · rw [List.mem_singleton.mp z]; exact hil
      rw [upd_ne (Nat.ne_of_lt hb2)]
      exact (hf b hb).1
  done := by
    intro X hP hw hK hc i pins s σ H E I hf st hg
    subst hP hw hK
    obtain ⟨⟨old, he⟩, hit, hne⟩ := st
    obtain ⟨xs, hq, hx⟩ := hg
    obtain ⟨its, rv, p, hz⟩ := I.tuple hq
    obtain ⟨f0, f1, f2, f3, f4, f5⟩ := hf it (by simp)
    have hl := rv.length
    have hd : X.A.handled = none := I.ok.hd hc
    have hi : i = its.toArray.size := by rw [List.size_toArray, ← hl, hx]
    subst hi
    exact wpAny_pyNext_enum_endD (Draws.tuple (A := X.A.in1) hd it a hat its.toArray) he ⟨hit, p⟩ fun h' eb => ⟨rfl, I.turned (t' := s.toks) (fun b o hb q => eb b o hb q) f0 f1 f3 f4 f5⟩
  self := fun A i s Q E st h => by
    obtain ⟨⟨_, he⟩, _⟩ := st
    exact wpAny_pyIter_enum he h
theorem walk_enumT {K : PySem.W.Frag} {a : Addr} {xs : List V} :
    Walk (Ite2 K a) xs.length (fun H => SqT K H a xs) (YPair (fun i => some (.int (i : Nat))) (fun i => xs[i]?)) := by
  refine ⟨fun i _ hi q => ⟨xs, xs[i], q, by simp [hi]⟩, fun _ q => ⟨xs, q, rfl⟩, fun i H v H' _ q y => ?_⟩
  obtain ⟨T, x, h1, h2, h3, h4⟩ := y
  exact ⟨T, .int (i : Nat), x, h1, h2, h3, rfl, h4 xs q⟩
def iEnumT (K : PySem.W.Frag) (ta : TA) : TI := fun σ H R => ta σ H fun vs H1 => ∃ a xs, vs = [.ref a] ∧ SqT K H1 a xs ∧ R (Ite2 K a) H1
section
variable {X : Cx} {tg : Expr}
theorem pi_enumT {e : Expr} {ta : TA} {p pos tpos : Pos} {elts : List Expr} {kk : Nat} (hg : Gl X "enumerate") (hm : X.mg "enumerate" = none) (ha : PA X [e] ta) (hs : starEach [e] X.env = [(false, eval e X.env)] := by rfl) :
    PI X (.Tuple elts kk tpos) (.Call (.Name "enumerate" p) [e] [] pos) (iEnumT X.K ta) := by
  refine ⟨fun pins s σ H R I h => Call_ (ld_blt I hg hm boot_enumerate (PyProof.Rows.callWith_type1 (thn (ha.run pos pins s σ H _ I h) fun us s1 ⟨vs, H1, I1, r1, q1⟩ => ?_) hs rfl))⟩
  obtain ⟨a, xs, rfl, hq, q⟩ := q1
  obtain ⟨u, rfl, r⟩ := vals1 r1
  cases (show u = Value.ref a from r)
  obtain ⟨its, rv, p', hz⟩ := I1.tuple hq
  have hat : a < s1.heap.objs.size := p'.lt
  refine call_enum_tup (show s1.heap.IsTuple a its.toArray from p') fun h' he hit hk => wpAny_pyIter_enum he ?_
  have I2 : Inv X pins σ H1 { s1 with heap := h' } := I1.kept (t' := s1.toks) hk
  refine ⟨s1.heap.objs.size + 1, [s1.heap.objs.size + 1, s1.heap.objs.size], _, _, H1, rfl, I2, turn_enumT a (s1.heap.objs.size + 1) s1.heap.objs.size (Nat.ne_of_lt hat) (Nat.ne_of_lt (Nat.lt_succ_of_lt hat)), ⟨⟨.none, he⟩, hit, Nat.succ_ne_self _⟩, fun b hb => ?_, q⟩
  have hle : s1.heap.objs.size ≤ b := by
    rcases List.mem_cons.mp hb with z | z
    · rw [z]
      exact Nat.le_add_right _ _
    · rw [List.mem_singleton.mp z]
      exact Nat.le_refl _
  exact I1.fpOk hle (I1.hok.fresh hle)

/-- a, b = a tuple or a list of two .. -/
def gSeq (K : PySem.W.Frag) (n : Nat) (t : TGs) : TG := fun v σ H Q => ∃ a xs, v = .ref a ∧ (SqT K H a xs ∨ SqL K H a xs) ∧ xs.length = n ∧ t xs σ H Q
theorem pg_seq {es : List Expr} {k : Nat} {pos : Pos} {t : TGs} {n : Nat} (hc : X.calm = true) (h : PGs X es t) (hn : (assignEach es X.env).length = n := by rfl) (hst : (assignEach es X.env).findIdx? (·.1) = none := by rfl) :
    PG X (.Tuple es k pos) (gSeq X.K n t) := by
  refine ⟨fun pins s σ H v u Q I r hw => ?_⟩
  obtain ⟨a, xs, e, hq | hq, hl, hw⟩ := hw
  · exact (pg_tup (n := n) hc h hn hst).run pins s σ H v u Q I r ⟨a, xs, e, hq, hl, hw⟩
  · exact (pg_lst (n := n) hc h hn hst).run pins s σ H v u Q I r ⟨a, xs, e, hq, hl, hw⟩
/-- for over a tuple or a list: whichever it is -/
def iSeq (K : PySem.W.Frag) (tl : TE) : TI := fun σ H R => tl σ H fun v H1 => ∃ (a : Addr) (xs : List V), v = .ref a ∧ (SqT K H1 a xs ∨ SqL K H1 a xs) ∧
  ∀ (J : It) (G : Hp → Prop), Walk J xs.length G (YAt xs) → (∀ H', Evl.Ex H1 H' → G H') → R J H1
theorem pi_seq {l : Expr} {tl : TE} (hl : PE X l tl) : PI X tg l (iSeq X.K tl) := by
  refine ⟨fun pins s σ H R I h => thn (hl.run pins s σ H _ I h) fun v s1 ⟨x, H1, I1, r1, q1⟩ => ?_⟩
  obtain ⟨a, xs, rfl, hq, q⟩ := q1
  cases (show v = Value.ref a from r1)
  have fin : ∀ b ∈ [s1.heap.objs.size], FpOk X pins H1 b := fun b hb => by
    rw [List.mem_singleton.mp hb]
    exact I1.fpOk (Nat.le_refl _) (I1.hok.fresh (Nat.le_refl _))
  rcases hq with hq | hq
  · obtain ⟨its, rv, p, hz⟩ := I1.tuple hq
    refine wpAny_pyIter_tuple (show s1.heap.IsTuple a its.toArray from p) ?_
    exact ⟨s1.heap.objs.size, [s1.heap.objs.size], _, _, H1, rfl, I1.kept (t' := s1.toks) (fun b o e => Heap.get?_push_of_some _ e), turn_tuple a _, ⟨_, Heap.get?_push_size _ rfl, rfl, rfl⟩, fin, q _ _ walk_tup fun H' e => Evl.ex_t e hq⟩
  · obtain ⟨its, rv, p, hz⟩ := I1.list hq
    refine wpAny_pyIter_list p.isList ?_
    exact ⟨s1.heap.objs.size, [s1.heap.objs.size], _, _, H1, rfl, I1.kept (t' := s1.toks) (fun b o e => Heap.get?_push_of_some _ e), turn_list a _, ⟨_, Heap.get?_push_size _ rfl, rfl, rfl⟩, fin, q _ _ walk_list fun H' e => Evl.ex_l e hq⟩

/-- f(k = v, ..) -/
def tCallW (sp : Sp) (gV : List V → List V) (E : XK) (tk : TA) : TE := fun σ H Q => tk σ H fun zs H2 => sp (gV zs) H2 Q E
structure KwOk (K : PySem.W.Frag) (fd : FuncData) (ps ks : List Str) (g : List Value → List Value) (gV : List V → List V) : Prop where
  to : ∀ (s : Shared) (ws : List Value), K.In s.heap → (g ws).length = ps.length → BindsTo s fd ⟨[], ks.zip ws⟩ (ps.zip (g ws))
  rel : ∀ {zs : List V} {ws : List Value}, Vals zs ws → Vals (gV zs) (g ws)
theorem pe_callW {CX : CXT} {k : Nat} {f : Addr} {fd : FuncData} {ps ks : List Str} {sp : Sp} {E : XK} {x : Str} {p pos : Pos} {kws : List Keyword} {tk : TA} {g : List Value → List Value} {gV : List V → List V}
    (F : FnOk X.prog X.w X.K X.mg X.base CX k f fd ps sp) (hr : Room k X.A) (hg : Gl X x) (hm : X.mg x = some (.ref f)) (hk : PySem.W.keepIn X.K (.ref f) = true) (hb : KwOk X.K fd ps ks g gV) (hx : Passes CX X E)
    (hkw : PK X kws tk) (hall : (backToKw pos (keywordEach kws X.env)).all (·.1.isSome) = true := by rfl) (hks : (backToKw pos (keywordEach kws X.env)).filterMap (·.1) = ks := by rfl)
    (hdb : (x == ("__debug__" : Str)) = false := by decide) (hpl : ((backTo pos (starEach [] X.env)).any (·.1) || (backToKw pos (keywordEach kws X.env)).any (·.1.isNone)) = false := by rfl) :
    PE X (.Call (.Name x p) [] kws pos) (tCallW sp gV E tk) := by
  refine ⟨fun pins s σ H Q I h => wpAny_Call_Name_kw (ld_glob I hg hm (PySem.W.callWith_KW0 (h₀ := X.base) I.ok.mod.kin hk hall ?_ hpl) hdb)⟩
  refine thn (hkw.run pos pins s σ H _ I h) fun ws s2 ⟨zs, H2, I2, rz, q2⟩ => ⟨I2.kIn, ?_⟩
  rw [hks]
  show wpAny _ _ (call (.ref f) [] (ks.zip ws)) _ _ _
  have r2 := hb.rel rz
  have hl : (g ws).length = ps.length := by rw [← r2.length]; exact F.len _ _ _ _ q2
  refine wpAny_call (codeAny_mono (F.run X.A X.stack s2 H2 ⟨[], ks.zip ws⟩ (g ws) (gV zs) Q E hr I2.env0 (hb.to s2 ws I2.kIn hl) r2 q2) fun r s' hq => ?_)
  cases r with
  | error e => exact hx pins σ H2 s2 e s' I2 hq
  | ok fl =>
    cases fl with
    | ret u => exact I2.after hq
    | next => exact False.elim hq
    | brk => exact False.elim hq
    | cont => exact False.elim hq

/-- len(set(ints)) -/
def tLenSet (K : PySem.W.Frag) (ta : TE) : TE := fun σ H Q => ta σ H fun x H1 => ∃ (l : Addr) (ns : List Int), x = .ref l ∧ SqL K H1 l (ns.map V.int) ∧ ns.length ≤ 4000 ∧ Q (.int ((PyProof.Rows.firstMet (fun i => ns.getD i 0) ns.length).length : Nat)) H1
theorem pe_lenSet {a : Expr} {ta : TE} {p p2 q pos : Pos} (hg : Gl X "len") (hm : X.mg "len" = none) (hg2 : Gl X "set") (hm2 : X.mg "set" = none) (ha : PE X a ta) (hc : X.calm = true := by rfl)
    (na : starEach [a] X.env = (false, eval a X.env) :: starEach [] X.env := by rfl) : PE X (.Call (.Name "len" p) [.Call (.Name "set" p2) [a] [] q] [] pos) (tLenSet X.K ta) := by
  refine ⟨fun pins s σ H Q I h => Call_ (ld_blt I hg hm boot_len (PyProof.Rows.callWith_builtin1 (PyProof.Rows.args_cons (Call_ (ld_blt I hg2 hm2 boot_set ?_)) rfl) rfl rfl))⟩
  refine PyProof.Rows.callWith_type1 (PyProof.Rows.args_cons (thn (ha.run pins s σ H _ I h) fun v s1 ⟨x, H1, I1, r1, q1⟩ => PyProof.Rows.args_nil ?_) na) na rfl
  obtain ⟨l, ns, rfl, hq, hl, q1⟩ := q1
  cases (show v = Value.ref l from r1)
  obtain ⟨its, r, pl, hz⟩ := I1.list hq
  have hlen : its.toArray.size = ns.length := by rw [List.size_toArray, ← r.length, List.length_map]
  refine call_set_list (I1.ok.hd hc) pl.isList (by simpa using RZ.intsAre_vals r) (by rw [hlen]; unfold scanBound; omega) fun h' tk hS hk => PyProof.Rows.args_nil ?_
  rw [hlen] at hS
  have hle := PyProof.Rows.firstMet_length_le (fun i => ns.getD i 0) ns.length
  obtain ⟨o, es, ep, t, ho, hex, hd, _, _, _, hf, hn⟩ := hS
  have I2 : Inv X pins σ H1 { s1 with heap := h', toks := tk } := I1.kept fun b o e => hk b o (Heap.lt_size e) e
  exact call_len_set ho hex hd hf (by rw [hn] <;> omega) ⟨.int _, H1, I2.tok _, ⟨_, by rw [hn]⟩, q1⟩
end
end Pu

set_option Elab.async false
set_option linter.all false
set_option maxRecDepth 100000
set_option maxHeartbeats 4000000
/-! what values are, at a heap; the builtins that tell it; a pure def as a promise of the layer. -/
namespace Pu
open PySem PySem.Spec PyProof.Rows L2 GxR

/-- a tuple (b = true) or a list of these, at a -/
def SeqG (g : Heap) (b : Bool) (a : Addr) (its : List Value) : Prop := its.length ≤ sizeLine ∧ if b = true then IsTup g a its.toArray else PlainL g a its.toArray
theorem SeqG.mono {g h : Heap} {b : Bool} {a : Addr} {its : List Value} (x : SeqG g b a its) (e : Ext g h) : SeqG h b a its := by
  refine ⟨x.1, ?_⟩
  cases b with
  | true =>
    obtain ⟨o, ho, r⟩ := (show IsTup g a its.toArray from x.2)
    exact ⟨o, e _ _ ho, r⟩
  | false => exact (show PlainL g a its.toArray from x.2).keeps e
inductive TyG (g : Heap) : V → String → Prop
  | non : TyG g .non "NoneType"
  | bl (b : Bool) : TyG g (.bl b) "bool"
  | int (i : Int) : TyG g (.int i) "int"
  | str (x : Str) : TyG g (.str x) "str"
  | tup {a : Addr} {its : List Value} (h : SeqG g true a its) : TyG g (.ref a) "tuple"
  | lst {a : Addr} {its : List Value} (h : SeqG g false a its) : TyG g (.ref a) "list"
theorem TyG.mono {g h : Heap} {x : V} {t : String} (y : TyG g x t) (e : Ext g h) : TyG h x t := by
  cases y with
  | non => exact .non
  | bl b => exact .bl b
  | int i => exact .int i
  | str x => exact .str x
  | tup q => exact .tup (q.mono e)
  | lst q => exact .lst (q.mono e)
theorem TyG.kit {K : PySem.W.Frag} {g : Heap} {x : V} {t : String} {u : Value} (y : TyG g x t) (r : RelV x u) : ∃ P : Heap → Prop, PySem.W.KitX K u (.type t) P ∧ P g ∧ u ≠ .builtin "__main__.__loader__#opaque" := by
  cases y with
  | non => cases (show u = Value.none from r); exact ⟨_, PySem.W.kitx_none, True.intro, fun z => nomatch z⟩
  | bl b => cases (show u = Value.bool b from r); exact ⟨_, PySem.W.kitx_bool, True.intro, fun z => nomatch z⟩
  | int i => obtain ⟨t, rfl⟩ := (show ∃ t, u = Value.int i t from r); exact ⟨_, PySem.W.kitx_int, True.intro, fun z => nomatch z⟩
  | str y => obtain ⟨t, rfl⟩ := (show ∃ t, u = Value.str y t from r); exact ⟨_, PySem.W.kitx_str, True.intro, fun z => nomatch z⟩
  | @tup a its q =>
    cases (show u = Value.ref a from r)
    obtain ⟨o, h1, h2, _⟩ := (show IsTup g a its.toArray from q.2)
    exact ⟨_, PySem.W.kitx_tuple, ⟨o, h1, h2⟩, fun z => nomatch z⟩
  | @lst a its q =>
    cases (show u = Value.ref a from r)
    obtain ⟨o, n, h1, h2, _⟩ := (show PlainL g a its.toArray from q.2)
    exact ⟨_, PySem.W.kitx_list, ⟨o, h1, h2⟩, fun z => nomatch z⟩
/-- what kind of thing an abstract heap tells -/
theorem TyG.of_sq {P : Program} {w : World} {K : PySem.W.Frag} {H : Hp} {h : Heap} {a : Addr} {xs : List V} (ok : HOk P w H h) (kin : K.In h) (q : SqT K H a xs ∨ SqL K H a xs) : ∃ (b : Bool) (its : List Value), Vals xs its ∧ SeqG h b a its := by
  rcases q with q | q
  · rcases q with q | ⟨o, its, n, hk, hc, hs, hz, r⟩
    · obtain ⟨z, its, r, p⟩ := q.ok ok
      exact ⟨true, its, r, by rw [← r.length]; exact z, p⟩
    · refine ⟨true, its.toList, r, by simpa using hz, ?_⟩
      exact ⟨o, kin a o hk, hc, n, by simpa using hs⟩
  · rcases q with q | ⟨o, its, n, hk, hc, hd, hs, hz, r⟩
    · obtain ⟨z, its, n, r, e⟩ := q.ok ok
      exact ⟨false, its, r, by rw [← r.length]; exact z, ⟨_, n, e, rfl, rfl, rfl⟩⟩
    · exact ⟨false, its.toList, r, by simpa using hz, ⟨o, n, kin a o hk, hc, hd, by simpa using hs⟩⟩
theorem TyG.seq {g : Heap} {b : Bool} {a : Addr} {its : List Value} (q : SeqG g b a its) : TyG g (.ref a) (if b = true then "tuple" else "list") := by
  cases b with
  | true => exact .tup q
  | false => exact .lst q

section
variable {P : Program} {w : World} {K : PySem.W.Frag} {mg : Str → Option Value} {base : Heap} {A : Around} {env : Env} {g : Heap}
/-- isinstance(x, T) -/
theorem ev_isi {p q pos : Pos} {e : Expr} {n : Str} {T t : String} {x : V} {b : Bool} (F : FrP K mg base A env g) (hg : env.kindOf "isinstance" = some .globalImplicit) (hm : mg "isinstance" = none) (he : EV P w A env g e x) (ty : TyG g x t)
    (hg2 : env.kindOf n = some .globalImplicit) (hm2 : mg n = none) (hv : bootBuiltins n = some (.type T)) (kb : kitB t T = some b) (hn : n ≠ "__name__" := by decide) (hd : (n == ("__debug__" : Str)) = false := by decide)
    (h1 : starEach [e, .Name n q] env = (false, eval e env) :: starEach [.Name n q] env := by rfl) (h2 : starEach [.Name n q] env = (false, eval (.Name n q) env) :: starEach [] env := by rfl)
    (hpl : (backTo pos (starEach [.Name n q] env)).any (·.1) = false := by rfl) (hvi : bootBuiltins "isinstance" = some (.builtin "isinstance") := by decide +kernel) : EV P w A env g (.Call (.Name "isinstance" p) [e, .Name n q] [] pos) (.bl b) := by
  refine ev_bltcall (vs := [x, .ty T]) F hg hm hvi (ea_cons he (ea_cons (ev_blt (v := .ty T) F hg2 hm2 hv rfl hn hd) ea_nil h2) h1) (fun s us Q E hx r hQ => ?_) (by decide) (by decide) h1 hpl
  obtain ⟨u1, u2, rfl, r1, r2⟩ := vals2 r
  cases (show u2 = Value.type T from r2)
  obtain ⟨Pp, Z, pp, hne⟩ := (ty.mono hx).kit (K := K) r1
  exact PySem.W.kia_one Z (F.mod.kin.keeps fun b o e => hx b o (F.ext b o e)) pp (kit_ty kb) hne fun tk => hQ _ s.heap tk rfl fun _ _ e => e
/-- isinstance(x, (T, ..)) -/
theorem ev_isiT {p pos tp : Pos} {k : Nat} {e : Expr} {es : List Expr} {Ts : List String} {t : String} {x : V} {b : Bool} (F : FrP K mg base A env g) (hg : env.kindOf "isinstance" = some .globalImplicit) (hm : mg "isinstance" = none) (he : EV P w A env g e x) (ty : TyG g x t)
    (ha : EA P w A env g es (Ts.map V.ty)) (kb : PySem.W.kitAny K (.type t) (Ts.map Value.type) = some b) (hl : Ts.length ≤ 1000)
    (h1 : starEach [e, .Tuple es k tp] env = (false, eval e env) :: starEach [.Tuple es k tp] env := by rfl) (h2 : starEach [.Tuple es k tp] env = (false, eval (.Tuple es k tp) env) :: starEach [] env := by rfl)
    (hpl : (backTo pos (starEach [.Tuple es k tp] env)).any (·.1) = false := by rfl) (hvi : bootBuiltins "isinstance" = some (.builtin "isinstance") := by decide +kernel) : EV P w A env g (.Call (.Name "isinstance" p) [e, .Tuple es k tp] [] pos) (.bl b) := fun s Q E hx hQ => by
  obtain ⟨mb, q1, q2⟩ := F.mod.blt
  have hb : Ext base s.heap := fun b o e => hx b o (F.ext b o e)
  refine wpAny_Call_Name_kw (Calls.Name_function_global F.kind hg (Calls.loadGlobal_builtin (by rw [F.glob]; exact F.mod.glob.keeps hb) hm (by rw [F.blt]; exact q1.keeps hb) ((q2 _ (by decide)).trans hvi) ?_) (by decide))
  refine PyProof.Rows.callWith_builtin1 ?_ h1 hpl
  rw [h1]
  show wpAny _ _ (spliced ((false, eval e env) :: backTo pos (starEach [.Tuple es k tp] env))) _ _ s
  refine Calls.spliced_cons (he s _ E hx fun u h' tk r hk => ?_)
  rw [h2]
  show wpAny _ _ (spliced ((false, eval (.Tuple es k tp) env) :: backTo pos (starEach [] env))) _ _ _
  refine Calls.spliced_cons (wpAny_Tuple_spliced (ha _ { s with heap := h', toks := tk } _ E (fun b o e => hk b o (hx b o e)) fun us h2 t2 r2 k2 => ⟨?_, Calls.spliced_nil ?_⟩))
  · rw [← r2.length, List.length_map]
    exact Nat.le_trans hl (by decide)
  · have e2 : us = Ts.map Value.type := by
      clear kb hl hQ ha
      induction Ts generalizing us with
      | nil => cases r2; rfl
      | cons T Ts ih =>
        cases r2 with
        | cons ra rb =>
          rw [show _ = Value.type T from ra, ih _ rb]
          rfl
    subst e2
    have kx : Ext s.heap (h2.push { cls := .type "tuple", data := .seq (Ts.map Value.type).toArray }) := fun b o e => Heap.get?_push_of_some _ (k2 b o (hk b o e))
    have gx : Ext g (h2.push { cls := .type "tuple", data := .seq (Ts.map Value.type).toArray }) := fun b o e => kx b o (hx b o e)
    obtain ⟨Pp, Z, pp, hne⟩ := (ty.mono gx).kit (K := K) r
    exact PySem.W.kia_tup Z (F.mod.kin.keeps fun b o e => gx b o (F.ext b o e)) pp (Heap.get?_push_size _ rfl) kb hne fun tk3 => hQ _ _ tk3 rfl kx
/-- len(x) of a tuple or a list -/
theorem ev_len {p pos : Pos} {e : Expr} {a : Addr} {bb : Bool} {its : List Value} (F : FrP K mg base A env g) (hg : env.kindOf "len" = some .globalImplicit) (hm : mg "len" = none) (he : EV P w A env g e (.ref a)) (sq : SeqG g bb a its)
    (h1 : starEach [e] env = (false, eval e env) :: starEach [] env := by rfl) (hpl : (backTo pos (starEach [] env)).any (·.1) = false := by rfl) : EV P w A env g (.Call (.Name "len" p) [e] [] pos) (.int its.length) := by
  refine ev_bltcall (vs := [.ref a]) F hg hm boot_len (ea_cons he ea_nil h1) (fun s us Q E hx r hQ => ?_) (by decide) (by decide) h1 hpl
  obtain ⟨u, rfl, r1⟩ := vals1 r
  cases (show u = Value.ref a from r1)
  have hl := line63
  have hz := (sq.mono hx).1
  have hsz : its.toArray.size = its.length := by simp
  have fin : ∀ t1 t2, Q (.int its.length t1) { s with toks := t2 } := fun t1 t2 => hQ _ s.heap t2 ⟨_, rfl⟩ fun _ _ e => e
  cases bb with
  | true => exact len_tuple (show IsTup s.heap a its.toArray from (sq.mono hx).2) (by rw [hsz]; omega) (by rw [hsz]; exact fin _ _)
  | false => exact Calls.call_len_list (show PlainL s.heap a its.toArray from (sq.mono hx).2).isList (by rw [hsz]; omega) (by rw [hsz]; exact fin _ _)
/-- x[i], i written -/
theorem ev_ix {pos : Pos} {e ie : Expr} {a : Addr} {bb : Bool} {its : List Value} {j : Nat} {u : Value} {v : V} (F : FrP K mg base A env g) (he : EV P w A env g e (.ref a)) (hi : EV P w A env g ie (.int j)) (sq : SeqG g bb a its) (hj : its[j]? = some u) (r : RelV v u) (hs : PlainIx ie := by exact fun _ _ => rfl) :
    EV P w A env g (.Subscript e ie pos) v := fun s Q E hx hQ => by
  refine Subscript_ (he s _ E hx fun o h' tk ro hk => hi { s with heap := h', toks := tk } _ E (fun b o e => hk b o (hx b o e)) fun iv h2 t2 ri k2 => ?_)
  cases (show o = Value.ref a from ro)
  obtain ⟨t, rfl⟩ := (show ∃ t, iv = Value.int j t from ri)
  have gx : Ext g h2 := fun b o e => k2 b o (hk b o (hx b o e))
  have lt : j < its.length := (List.getElem?_eq_some_iff.mp hj).1
  have hn := line63
  have hz := sq.1
  have fin : Q u { s with heap := h2, toks := t2 } := hQ u h2 t2 r fun b o e => k2 b o (hk b o e)
  have ej : its.toArray[j]? = some u := by simpa using hj
  cases bb with
  | true =>
    have p : IsTup h2 a its.toArray := (sq.mono gx).2
    exact subscriptTail_builtinR (x := u) p.typeIs slot_tuple_getitem.lookup
      (PyProof.Rows.getItem_tuple (j := j) (Q := fun r s' => r = u ∧ Q r s') p (by omega) (by omega) (seqIndex_of (by omega) (by simpa using lt)) ej ⟨rfl, fin⟩) (hs _ _)
  | false =>
    have p : PlainL h2 a its.toArray := (sq.mono gx).2
    exact item_listR p.isList (by omega) (by omega) (by simpa using ej) fin (hs _ _)
end

/-- a pure def as a promise of the layer -/
def spPure (P : Program) (w : World) (base : Heap) (ps : List Str) (sp : List V → Heap → V → Prop) : Sp := fun vs H Q _ => vs.length = ps.length ∧ ∃ v, (∀ h, HOk P w H h → Ext base h → sp vs h v) ∧ Q v H
theorem PF.ok {P : Program} {w : World} {K : PySem.W.Frag} {mg : Str → Option Value} {base : Heap} {k : Nat} {f : Addr} {fd : FuncData} {ps : List Str} {sp : List V → Heap → V → Prop} (G : PF P w K mg base k f fd ps sp) :
    FnOk P w K mg base CX0 k f fd ps (spPure P w base ps sp) := by
  refine ⟨fun vs H Q E h => h.1, fun A outer s H args us vs Q E hr e0 hb rv h => ?_⟩
  obtain ⟨hl, v, hv, hQ⟩ := h
  have hx : Ext base s.heap := fun b o e => (e0.bs b o e).1
  refine G.run A s args us vs v _ hr hx hb rv hl (hv _ e0.hok hx) fun u h' tk r hk => ?_
  exact ⟨v, H, rfl, e0.bare, Un.kept hk, e0.hok.kept hk, r, hQ⟩
end Pu

/-! shapes by numbers alone -/
namespace Sh
def counts (k m : Nat) : List Nat :=
  if h : k < m ∧ 2 ≤ k then (k - (m - k) % 2) :: counts k ((m - (k - (m - k) % 2)) / 2) else if 0 < m then [m] else []
termination_by m
decreasing_by omega
def tot : List Nat → Nat → Nat
  | [], _ => 0
  | c :: cs, s => tot cs (2 * s) + s * c
def sh (f : Nat) : List Nat → Nat → List (Nat × Nat)
  | [], _ => []
  | c :: cs, s => sh f cs (2 * s) ++ (List.range c).map fun j => (f + tot cs (2 * s) + s * j, s)
/-- the shape of rows f up to l -/
def shp (k f l : Nat) : List (Nat × Nat) := sh f (counts k (l - f)) 1
inductive Val (k : Nat) : List Nat → Prop
  | one {c : Nat} (h1 : 1 ≤ c) (h2 : c ≤ k) : Val k [c]
  | more {c d : Nat} {cs : List Nat} (h : c = k ∨ c + 1 = k) (r : Val k (d :: cs)) : Val k (c :: d :: cs)
theorem tot_scale : ∀ (cs : List Nat) (s : Nat), tot cs s = s * tot cs 1
  | [], s => rfl
  | c :: cs, s => by
    show tot cs (2 * s) + s * c = s * (tot cs (2 * 1) + 1 * c)
    rw [tot_scale cs (2 * s), tot_scale cs (2 * 1), Nat.mul_add, Nat.one_mul, ← Nat.mul_assoc, ← Nat.mul_assoc, Nat.mul_one, Nat.mul_comm 2 s]
theorem tot_cons (c : Nat) (cs : List Nat) : tot (c :: cs) 1 = 2 * tot cs 1 + c := by
  show tot cs (2 * 1) + 1 * c = _
  rw [tot_scale cs (2 * 1)]
  omega
theorem tot_pos {k : Nat} {cs : List Nat} (h : Val k cs) (_ : 2 ≤ k) : 0 < tot cs 1 := by
  induction h with
  | one h1 h2 => rw [tot_cons]; omega
  | more h r ih => rw [tot_cons]; omega
theorem counts_big {k m : Nat} (h : k < m) (hk : 2 ≤ k) : counts k m = (k - (m - k) % 2) :: counts k ((m - (k - (m - k) % 2)) / 2) := by
  rw [counts, dif_pos ⟨h, hk⟩]
theorem counts_small {k m : Nat} (h : ¬ k < m) : counts k m = if 0 < m then [m] else [] := by
  rw [counts, dif_neg fun z => h z.1]
theorem counts_zero (k : Nat) : counts k 0 = [] := by rw [counts_small (by omega)]; rfl
theorem counts_tot {k : Nat} (hk : 2 ≤ k) : ∀ m, tot (counts k m) 1 = m := by
  intro m
  induction m using Nat.strongRecOn with
  | ind m ih =>
    by_cases h : k < m
    · rw [counts_big h hk, tot_cons, ih _ (by omega)]
      omega
    · rw [counts_small h]
      by_cases h0 : 0 < m
      · rw [if_pos h0, tot_cons]
        show 2 * 0 + m = m
        omega
      · rw [if_neg h0]
        show 0 = m
        omega
theorem counts_val {k : Nat} (hk : 2 ≤ k) : ∀ m, 0 < m → Val k (counts k m) := by
  intro m
  induction m using Nat.strongRecOn with
  | ind m ih =>
    intro h0
    by_cases h : k < m
    · rw [counts_big h hk]
      have q := ih ((m - (k - (m - k) % 2)) / 2) (by omega) (by omega)
      generalize counts k ((m - (k - (m - k) % 2)) / 2) = cs at q
      cases q with
      | one a b => exact .more (by omega) (.one a b)
      | more a b => exact .more (by omega) (.more a b)
    · rw [counts_small h, if_pos h0]
      exact .one h0 (by omega)
theorem uniq {k : Nat} {cs : List Nat} (hk : 2 ≤ k) (h : Val k cs) : counts k (tot cs 1) = cs := by
  induction h with
  | @one c h1 h2 =>
    have e : tot [c] 1 = c := by rw [tot_cons]; show 2 * 0 + c = c; omega
    rw [e, counts_small (by omega), if_pos (show 0 < c from h1)]
  | @more c d cs h r ih =>
    have p := tot_pos r hk
    rw [tot_cons, counts_big (by omega) hk]
    have e1 : k - (2 * tot (d :: cs) 1 + c - k) % 2 = c := by omega
    rw [e1]
    have e2 : (2 * tot (d :: cs) 1 + c - c) / 2 = tot (d :: cs) 1 := by omega
    rw [e2, ih]
theorem val_ne {k : Nat} {cs : List Nat} (h : Val k cs) : cs ≠ [] := by
  cases h <;> simp
/-- the spans from some on are the shape from their first row on -/
theorem suffix {k : Nat} : ∀ (cs : List Nat) (s f j : Nat), Val k cs → ∃ cs' f', (cs' = [] ∨ Val k cs') ∧ (sh f cs s).drop j = sh f' cs' s ∧ f' + tot cs' s = f + tot cs s := by
  intro cs
  induction cs with
  | nil => intro s f j h; cases h
  | cons c cs ih =>
    intro s f j h
    -- within the block of the least size
    have blk : ∀ i, 1 ≤ c → (cs = [] ∨ Val k cs) → c ≤ k → ∃ cs' f', (cs' = [] ∨ Val k cs') ∧ ((List.range c).map fun j => (f + tot cs (2 * s) + s * j, s)).drop i = sh f' cs' s ∧ f' + tot cs' s = f + tot (c :: cs) s := by
      intro i h1 _ h2
      by_cases hi : i < c
      · refine ⟨[c - i], f + tot cs (2 * s) + s * i, .inr (.one (by omega) (by omega)), ?_, ?_⟩
        · show _ = [] ++ _
          rw [List.nil_append]
          apply List.ext_getElem
          · simp
          · intro n h1 h2
            simp only [List.getElem_drop, List.getElem_map, List.getElem_range]
            show (f + tot cs (2 * s) + s * (i + n), s) = (f + tot cs (2 * s) + s * i + 0 + s * n, s)
            rw [Nat.mul_add]
            simp only [Prod.mk.injEq, and_true]
            omega
        · show f + tot cs (2 * s) + s * i + (0 + s * (c - i)) = f + (tot cs (2 * s) + s * c)
          have : s * i + s * (c - i) = s * c := by rw [← Nat.mul_add]; congr 1; omega
          omega
      · refine ⟨[], f + tot (c :: cs) s, .inl rfl, ?_, rfl⟩
        rw [List.drop_of_length_le (by simp; omega)]
        rfl
    cases h with
    | one h1 h2 =>
      obtain ⟨cs', f', a, b, e⟩ := blk j h1 (.inl rfl) h2
      exact ⟨cs', f', a, by simpa [sh] using b, e⟩
    | @more _ d ds hc r =>
      by_cases hj : j ≤ (sh f (d :: ds) (2 * s)).length
      · by_cases hj2 : j < (sh f (d :: ds) (2 * s)).length
        · obtain ⟨cs', f', a, b, e⟩ := ih (2 * s) f j r
          have ne : cs' ≠ [] := fun z => by
            subst z
            have q : ((sh f (d :: ds) (2 * s)).drop j).length = 0 := by rw [b]; rfl
            rw [List.length_drop] at q
            omega
          have v : Val k cs' := a.resolve_left ne
          refine ⟨c :: cs', f', .inr ?_, ?_, ?_⟩
          · cases v with
            | one p q => exact .more hc (.one p q)
            | more p q => exact .more hc (.more p q)
          · show ((sh f (d :: ds) (2 * s)) ++ _).drop j = sh f' cs' (2 * s) ++ _
            rw [List.drop_append_of_le_length hj, b, e]
          · show f' + (tot cs' (2 * s) + s * c) = f + (tot (d :: ds) (2 * s) + s * c)
            omega
        · have hj3 : j = (sh f (d :: ds) (2 * s)).length := by omega
          by_cases c0 : c = 0
          · refine ⟨[], f + tot (c :: d :: ds) s, .inl rfl, ?_, rfl⟩
            rw [hj3, c0]
            simp [sh]
          · obtain ⟨cs', f', a, b, e⟩ := blk 0 (by omega) (.inr r) (by omega)
            refine ⟨cs', f', a, ?_, e⟩
            show ((sh f (d :: ds) (2 * s)) ++ _).drop j = _
            rw [hj3, List.drop_left]
            simpa using b
      · by_cases c0 : c = 0
        · refine ⟨[], f + tot (c :: d :: ds) s, .inl rfl, ?_, rfl⟩
          show ((sh f (d :: ds) (2 * s)) ++ _).drop j = _
          rw [List.drop_of_length_le (by rw [c0, List.length_append]; simp; omega)]
          rfl
        · obtain ⟨cs', f', a, b, e⟩ := blk (j - (sh f (d :: ds) (2 * s)).length) (by omega) (.inr r) (by omega)
          refine ⟨cs', f', a, ?_, e⟩
          show ((sh f (d :: ds) (2 * s)) ++ _).drop j = _
          rw [List.drop_append, List.drop_of_length_le (show (sh f (d :: ds) (2 * s)).length ≤ j by omega), List.nil_append]
          exact b

/-! ### within, in order -/
theorem sh_mem : ∀ (cs : List Nat) (s f : Nat) (p : Nat × Nat), p ∈ sh f cs s → f ≤ p.1 ∧ p.1 + p.2 ≤ f + tot cs s ∧ s ≤ p.2
  | [], _, _, _, h => by cases h
  | c :: cs, s, f, p, h => by
    rcases List.mem_append.mp h with h | h
    · obtain ⟨a, b, e⟩ := sh_mem cs (2 * s) f p h
      refine ⟨a, ?_, by omega⟩
      show p.1 + p.2 ≤ f + (tot cs (2 * s) + s * c)
      omega
    · obtain ⟨j, hj, rfl⟩ := List.mem_map.mp h
      have hj2 := List.mem_range.mp hj
      have q : s * (j + 1) ≤ s * c := Nat.mul_le_mul_left s hj2
      rw [Nat.mul_succ] at q
      refine ⟨?_, ?_, Nat.le_refl _⟩
      · show f ≤ f + tot cs (2 * s) + s * j
        omega
      · show f + tot cs (2 * s) + s * j + s ≤ f + (tot cs (2 * s) + s * c)
        omega
theorem sh_pair : ∀ (cs : List Nat) (s f : Nat), (sh f cs s).Pairwise fun a b => a.1 + a.2 ≤ b.1
  | [], _, _ => .nil
  | c :: cs, s, f => by
    refine List.pairwise_append.mpr ⟨sh_pair cs (2 * s) f, ?_, fun a ha b hb => ?_⟩
    · rw [List.pairwise_map]
      refine List.Pairwise.imp ?_ (List.pairwise_lt_range (n := c))
      intro i j h
      have q : s * (i + 1) ≤ s * j := Nat.mul_le_mul_left s h
      rw [Nat.mul_succ] at q
      show f + tot cs (2 * s) + s * i + s ≤ f + tot cs (2 * s) + s * j
      omega
    · have h1 := (sh_mem cs (2 * s) f a ha).2.1
      obtain ⟨j, _, rfl⟩ := List.mem_map.mp hb
      show a.1 + a.2 ≤ f + tot cs (2 * s) + s * j
      omega
/-- what does not lie below is what stands behind some spans -/
theorem filter_drop (b : Nat) : ∀ L : List (Nat × Nat), (L.Pairwise fun a b => a.1 + a.2 ≤ b.1) → ∃ j, L.filter (fun p => decide (b < p.1 + p.2)) = L.drop j
  | [], _ => ⟨0, rfl⟩
  | p :: L, h => by
    obtain ⟨h1, h2⟩ := List.pairwise_cons.mp h
    by_cases hp : b < p.1 + p.2
    · refine ⟨0, ?_⟩
      rw [List.drop_zero, List.filter_eq_self]
      intro q hq
      rcases List.mem_cons.mp hq with e | hq
      · rw [e]; exact decide_eq_true hp
      · have := h1 q hq
        exact decide_eq_true (by omega)
    · obtain ⟨j, hj⟩ := filter_drop b L h2
      refine ⟨j + 1, ?_⟩
      rw [List.filter_cons, if_neg (by simpa using hp), hj]
      rfl
/-- the first row of a shape -/
theorem sh_head {k : Nat} : ∀ {cs : List Nat} (_ : Val k cs) (_ : 2 ≤ k) (s f : Nat), ∃ m r, sh f cs s = (f, m) :: r
  | _, .one (c := c) h1 h2, _, s, f => by
    obtain ⟨d, rfl⟩ : ∃ d, c = d + 1 := ⟨c - 1, by omega⟩
    refine ⟨s, (List.range d).map fun j => (f + s * (j + 1), s), ?_⟩
    show [] ++ (List.range (d + 1)).map _ = _
    rw [List.nil_append, List.range_succ_eq_map, List.map_cons, List.map_map]
    rfl
  | _, .more (c := c) (d := d) (cs := cs) h r, hk, s, f => by
    obtain ⟨m, q, e⟩ := sh_head r hk (2 * s) f
    refine ⟨m, q ++ (List.range c).map fun j => (f + tot (d :: cs) (2 * s) + s * j, s), ?_⟩
    show sh f (d :: cs) (2 * s) ++ _ = _
    rw [e]
    rfl
def firstOf (L : List (Nat × Nat)) (l : Nat) : Nat := match L with
  | [] => l
  | p :: _ => p.1
theorem firstOf_sh {k f l : Nat} (hk : 2 ≤ k) (h : f ≤ l) : firstOf (shp k f l) l = f := by
  unfold shp
  by_cases e : l - f = 0
  · rw [e, counts_zero]
    show l = f
    omega
  · obtain ⟨m, r, q⟩ := sh_head (counts_val hk (l - f) (by omega)) hk 1 f
    rw [q]
    rfl
def gone (b : Nat) (L : List (Nat × Nat)) : List (Nat × Nat) := L.filter fun p => decide (b < p.1 + p.2)
/-- letting go leaves the shape of the row that is then the first -/
theorem gone_shp {k f l b : Nat} (hk : 2 ≤ k) (h : f ≤ l) : firstOf (gone b (shp k f l)) l ≤ l ∧ gone b (shp k f l) = shp k (firstOf (gone b (shp k f l)) l) l := by
  by_cases e : l - f = 0
  · have e2 : shp k f l = [] := by
      unfold shp
      rw [e, counts_zero]
      rfl
    rw [e2]
    refine ⟨Nat.le_refl _, ?_⟩
    show [] = shp k l l
    unfold shp
    rw [Nat.sub_self, counts_zero]
    rfl
  · have v := counts_val hk (l - f) (by omega)
    have t := counts_tot hk (l - f)
    obtain ⟨j, hj⟩ := filter_drop b (shp k f l) (sh_pair _ _ _)
    obtain ⟨cs', f', a, q, e2⟩ := suffix _ 1 f j v
    have g : gone b (shp k f l) = sh f' cs' 1 := hj.trans q
    rw [g]
    rw [t] at e2
    rcases a with a | a
    · subst a
      have e3 : f' = l := by
        have : f' + 0 = f + (l - f) := e2
        omega
      refine ⟨Nat.le_refl _, ?_⟩
      show [] = shp k l l
      unfold shp
      rw [Nat.sub_self, counts_zero]
      rfl
    · obtain ⟨m, r, q2⟩ := sh_head a hk 1 f'
      have e3 : firstOf (sh f' cs' 1) l = f' := by rw [q2]; rfl
      have e4 : l - f' = tot cs' 1 := by omega
      have p := tot_pos a hk
      rw [e3]
      refine ⟨by omega, ?_⟩
      unfold shp
      rw [e4, uniq hk a]
/-- how many of each size -/
theorem sizes_sh : ∀ (cs : List Nat) (s f : Nat), (sh f cs s).map (·.2) = (sh 0 cs s).map (·.2)
  | [], _, _ => rfl
  | c :: cs, s, f => by
    show (sh f cs (2 * s) ++ _).map _ = (sh 0 cs (2 * s) ++ _).map _
    rw [List.map_append, List.map_append, sizes_sh cs (2 * s) f, List.map_map, List.map_map]
    rfl
theorem size_in : ∀ (cs : List Nat) (s f : Nat) (p : Nat × Nat), p ∈ sh f cs s → ∃ i, i < cs.length ∧ p.2 = s * 2 ^ i
  | [], _, _, _, h => by cases h
  | c :: cs, s, f, p, h => by
    rcases List.mem_append.mp h with h | h
    · obtain ⟨i, hi, e⟩ := size_in cs (2 * s) f p h
      exact ⟨i + 1, by simpa using hi, by rw [e, Nat.pow_succ, Nat.mul_comm 2 s, Nat.mul_assoc, Nat.mul_comm 2]⟩
    · obtain ⟨j, _, rfl⟩ := List.mem_map.mp h
      exact ⟨0, by simp, by simp⟩
theorem count_sh : ∀ (cs : List Nat) (s f i : Nat), 0 < s → i < cs.length → ((sh f cs s).filter fun p => decide (p.2 = s * 2 ^ i)).length = cs.getD i 0
  | [], _, _, _, _, h => by simp at h
  | c :: cs, s, f, 0, hs, _ => by
    show ((sh f cs (2 * s) ++ (List.range c).map _).filter _).length = c
    rw [List.filter_append, List.length_append]
    have e1 : (sh f cs (2 * s)).filter (fun p => decide (p.2 = s * 2 ^ 0)) = [] := by
      rw [List.filter_eq_nil_iff]
      intro p hp
      have := (sh_mem cs (2 * s) f p hp).2.2
      simp
      omega
    have e2 : ((List.range c).map fun j => (f + tot cs (2 * s) + s * j, s)).filter (fun p => decide (p.2 = s * 2 ^ 0)) = (List.range c).map fun j => (f + tot cs (2 * s) + s * j, s) := by
      rw [List.filter_eq_self]
      intro p hp
      obtain ⟨j, _, rfl⟩ := List.mem_map.mp hp
      simp
    rw [e1, e2, List.length_map, List.length_range]
    simp
  | c :: cs, s, f, i + 1, hs, h => by
    show ((sh f cs (2 * s) ++ (List.range c).map _).filter _).length = cs.getD i 0
    rw [List.filter_append, List.length_append]
    have e2 : ((List.range c).map fun j => (f + tot cs (2 * s) + s * j, s)).filter (fun p => decide (p.2 = s * 2 ^ (i + 1))) = [] := by
      rw [List.filter_eq_nil_iff]
      intro p hp
      obtain ⟨j, _, rfl⟩ := List.mem_map.mp hp
      have : 1 < 2 ^ (i + 1) := Nat.one_lt_two_pow (by omega)
      have q : s * 1 < s * 2 ^ (i + 1) := Nat.mul_lt_mul_of_pos_left this hs
      simp
      omega
    have e3 : s * 2 ^ (i + 1) = 2 * s * 2 ^ i := by rw [Nat.pow_succ, Nat.mul_comm 2 s, Nat.mul_assoc, Nat.mul_comm 2]
    rw [e2, e3, count_sh cs (2 * s) f i (by omega) (by simpa using h)]
    rfl
theorem val_pos {k : Nat} {cs : List Nat} (h : Val k cs) (hk : 2 ≤ k) : ∀ i, i < cs.length → 1 ≤ cs.getD i 0 := by
  induction h with
  | one h1 h2 =>
    intro i hi
    have : i = 0 := by simpa using hi
    subst this
    exact h1
  | more h r ih =>
    intro i hi
    cases i with
    | zero => show 1 ≤ _; simp; omega
    | succ i => exact ih i (by simpa using hi)
theorem val_le {k : Nat} {cs : List Nat} (h : Val k cs) : ∀ i, cs.getD i 0 ≤ k := by
  induction h with
  | one h1 h2 =>
    intro i
    cases i with
    | zero => exact h2
    | succ i => simp
  | more h r ih =>
    intro i
    cases i with
    | zero => show _ ≤ _; simp; omega
    | succ i => exact ih i
theorem counts_le {k : Nat} (hk : 2 ≤ k) (m i : Nat) : (counts k m).getD i 0 ≤ k := by
  by_cases h : 0 < m
  · exact val_le (counts_val hk m h) i
  · have : m = 0 := by omega
    rw [this, counts_zero]
    simp
theorem tot_drop : ∀ (cs : List Nat) (i : Nat), tot (cs.drop i) (2 ^ i) ≤ tot cs 1
  | cs, 0 => Nat.le_refl _
  | [], i + 1 => by simp [tot]
  | c :: cs, i + 1 => by
    have h := tot_drop cs i
    rw [tot_cons]
    show tot (cs.drop i) (2 ^ (i + 1)) ≤ _
    rw [tot_scale] at h ⊢
    rw [Nat.pow_succ, Nat.mul_comm (2 ^ i) 2, Nat.mul_assoc]
    omega
theorem counts_len (k : Nat) (hk : 2 ≤ k) : ∀ m, (counts k m).length ≤ m := by
  intro m
  induction m using Nat.strongRecOn with
  | ind m ih =>
    by_cases h : k < m
    · rw [counts_big h hk, List.length_cons]
      have := ih ((m - (k - (m - k) % 2)) / 2) (by omega)
      omega
    · rw [counts_small h]
      by_cases h0 : 0 < m
      · rw [if_pos h0]; exact h0
      · rw [if_neg h0]; exact Nat.zero_le _
theorem sh_len : ∀ (cs : List Nat) (s f : Nat), 0 < s → (sh f cs s).length ≤ tot cs s
  | [], _, _, _ => Nat.le_refl _
  | c :: cs, s, f, hs => by
    have h := sh_len cs (2 * s) f (by omega)
    show (sh f cs (2 * s) ++ (List.range c).map _).length ≤ tot cs (2 * s) + s * c
    rw [List.length_append, List.length_map, List.length_range]
    have : 1 * c ≤ s * c := Nat.mul_le_mul_right c hs
    omega
theorem shp_len {k f l : Nat} (hk : 2 ≤ k) : (shp k f l).length ≤ l - f := by
  have h := sh_len (counts k (l - f)) 1 f (by omega)
  rw [counts_tot hk] at h
  exact h
theorem shp_mem {k f l : Nat} (hk : 2 ≤ k) (h : f ≤ l) {p : Nat × Nat} (hp : p ∈ shp k f l) : f ≤ p.1 ∧ p.1 + p.2 ≤ l ∧ 1 ≤ p.2 := by
  obtain ⟨a, b, c⟩ := sh_mem _ _ _ _ hp
  rw [counts_tot hk] at b
  exact ⟨a, by omega, c⟩
end Sh

set_option Elab.async false
set_option linter.all false
set_option maxRecDepth 100000
set_option maxHeartbeats 4000000
/-! the program's small defs -/
namespace K10
open PySem PySem.Spec PyProof.Rows L2 GxR Pu
def topS (i : Nat) : Stmt := PySem.Challenge.pw_farstory_k10_whole_the_shape_hangs_on_tw.main.body.getD i (.Pass ⟨0, 0, 0, 0⟩)
abbrev sIsInteger : Stmt := topS 4
abbrev sIsNumber : Stmt := topS 5
abbrev sIsSequence : Stmt := topS 6
abbrev sIsOfParts : Stmt := topS 7
abbrev sNeedNumber : Stmt := topS 8
abbrev sIsKeep : Stmt := topS 10
abbrev sNeedKeep : Stmt := topS 11
abbrev sCountsOf : Stmt := topS 12
abbrev sShapeFrom : Stmt := topS 13
abbrev sNeedRows : Stmt := topS 14
abbrev sShape : Stmt := topS 15
abbrev sIsStretch : Stmt := topS 16
abbrev sIsShape : Stmt := topS 17
abbrev sFirstOf : Stmt := topS 18
abbrev sLayShape : Stmt := topS 19
abbrev sLetGo : Stmt := topS 20
abbrev sSpanAt : Stmt := topS 21
abbrev sFirstBehind : Stmt := topS 22
abbrev sBox : Stmt := topS 24
abbrev sTake : Stmt := topS 25
abbrev sPick : Stmt := topS 26
abbrev sLaw : Stmt := topS 27
theorem scIsInteger : FnScope ["value"] ["value"] (defScope sIsInteger) := ⟨rfl, rfl, rfl, by decide +kernel, rfl, by decide +kernel, by decide +kernel⟩
theorem scIsNumber : FnScope ["value"] ["value"] (defScope sIsNumber) := ⟨rfl, rfl, rfl, by decide +kernel, rfl, by decide +kernel, by decide +kernel⟩
theorem scIsSequence : FnScope ["value"] ["value"] (defScope sIsSequence) := ⟨rfl, rfl, rfl, by decide +kernel, rfl, by decide +kernel, by decide +kernel⟩
theorem scIsOfParts : FnScope ["value", "many"] ["value", "many"] (defScope sIsOfParts) := ⟨rfl, rfl, rfl, by decide +kernel, rfl, by decide +kernel, by decide +kernel⟩
theorem scIsStretch : FnScope ["value"] ["value"] (defScope sIsStretch) := ⟨rfl, rfl, rfl, by decide +kernel, rfl, by decide +kernel, by decide +kernel⟩

/-- the names of the module that the defs read -/
structure Mg (mg : Str → Option Value) : Prop where
  isinstance : mg "isinstance" = none
  int : mg "int" = none
  bool : mg "bool" = none
  list : mg "list" = none
  tuple : mg "tuple" = none
  len : mg "len" = none
  range : mg "range" = none
  enumerate : mg "enumerate" = none
  reversed : mg "reversed" = none
  all : mg "all" = none
  abs : mg "abs" = none
  max : mg "max" = none
  min : mg "min" = none
  set : mg "set" = none
  repr : mg "repr" = none

def isNum : V → Bool
  | .int i => decide (i ≥ 0)
  | _ => false
def isSeq : String → Bool := fun t => t == "tuple" || t == "list"
def pInteger : List V → Heap → V → Prop := fun vs g v => ∃ x t, vs = [x] ∧ TyG g x t ∧ v = .bl (t == "int")
def pNumber : List V → Heap → V → Prop := fun vs g v => ∃ x t, vs = [x] ∧ TyG g x t ∧ v = .bl (isNum x)
def pSequence : List V → Heap → V → Prop := fun vs g v => ∃ x t, vs = [x] ∧ TyG g x t ∧ v = .bl (isSeq t)
/-- the value's parts, if it has some -/
inductive PartsG (g : Heap) : V → Option Nat → Prop
  | seq {b : Bool} {a : Addr} {its : List Value} (h : SeqG g b a its) : PartsG g (.ref a) (some its.length)
  | no {x : V} {t : String} (h : TyG g x t) (n : isSeq t = false) : PartsG g x none
def pOfParts : List V → Heap → V → Prop := fun vs g v => ∃ (x : V) (n : Option Nat) (m : Int), vs = [x, .int m] ∧ PartsG g x n ∧ v = .bl (match n with | some k => decide ((k : Int) = m) | none => false)
/-- what is_stretch finds -/
inductive StG (g : Heap) : V → Bool → Prop
  | two {b : Bool} {a : Addr} {u0 u1 : Value} {x y : V} {t s : String} (h : SeqG g b a [u0, u1]) (r : RelV x u0) (r' : RelV y u1) (tx : TyG g x t) (ty : TyG g y s) : StG g (.ref a) (isNum x && isNum y)
  | len {b : Bool} {a : Addr} {its : List Value} (h : SeqG g b a its) (n : its.length ≠ 2) : StG g (.ref a) false
  | no {x : V} {t : String} (h : TyG g x t) (n : isSeq t = false) : StG g x false
def pStretch : List V → Heap → V → Prop := fun vs g v => ∃ x b, vs = [x] ∧ StG g x b ∧ v = .bl b
theorem StG.mono {g h : Heap} {x : V} {b : Bool} (y : StG g x b) (e : Ext g h) : StG h x b := by
  cases y with
  | two q r r' a b => exact .two (q.mono e) r r' (a.mono e) (b.mono e)
  | len q n => exact .len (q.mono e) n
  | no q n => exact .no (q.mono e) n
theorem PartsG.mono {g h : Heap} {x : V} {n : Option Nat} (y : PartsG g x n) (e : Ext g h) : PartsG h x n := by
  cases y with
  | seq q => exact .seq (q.mono e)
  | no q n => exact .no (q.mono e) n

section
variable {P : Program} {w : World} {K : PySem.W.Frag} {mg : Str → Option Value} {base : Heap}
theorem kitsI {g : Heap} {x : V} {t : String} (y : TyG g x t) : ∃ b1 b2, kitB t "int" = some b1 ∧ kitB t "bool" = some b2 ∧ (b1 && !b2) = (t == "int") := by
  cases y with
  | non => exact ⟨false, false, by decide +kernel, by decide +kernel, by decide⟩
  | bl b => exact ⟨true, true, by decide +kernel, by decide +kernel, by decide⟩
  | int i => exact ⟨true, false, by decide +kernel, by decide +kernel, by decide⟩
  | str x => exact ⟨false, false, by decide +kernel, by decide +kernel, by decide⟩
  | tup q => exact ⟨false, false, by decide +kernel, by decide +kernel, by decide⟩
  | lst q => exact ⟨false, false, by decide +kernel, by decide +kernel, by decide⟩
theorem kitsS {g : Heap} {x : V} {t : String} (y : TyG g x t) : PySem.W.kitAny K (.type t) (["list", "tuple"].map Value.type) = some (isSeq t) := by
  have two : ∀ b1 b2, kitB t "list" = some b1 → kitB t "tuple" = some b2 → PySem.W.kitAny K (.type t) (["list", "tuple"].map Value.type) = some (b1 || b2) := fun b1 b2 h1 h2 =>
    kitAny_cons (kit_ty h1) (fun e => kitAny_cons (kit_ty h2) (fun e2 => by rw [e, e2]; exact kitAny_nil) (fun e2 => by rw [e2]; simp)) (fun e => by rw [e]; rfl)
  cases y with
  | non => exact two false false (by decide +kernel) (by decide +kernel)
  | bl b => exact two false false (by decide +kernel) (by decide +kernel)
  | int i => exact two false false (by decide +kernel) (by decide +kernel)
  | str x => exact two false false (by decide +kernel) (by decide +kernel)
  | tup q => exact two false true (by decide +kernel) (by decide +kernel)
  | lst q => exact two true false (by decide +kernel) (by decide +kernel)

theorem pf_is_integer {f : Addr} {fd : FuncData} (M : L2.Mod K mg base) (G : Mg mg) (F : Fun K "is_integer" "is_integer" sIsInteger f fd) : PF P w K mg base 1 f fd ["value"] pInteger := by
  refine pf_ret M F scIsInteger rfl (by decide +kernel) (fun cdv A L g us vs v hr hx r hl h hn => ?_) fun vs g h v e q => ?_
  · obtain ⟨x, t, rfl, ty, rfl⟩ := h
    obtain ⟨u, rfl, ru⟩ := vals1 r
    obtain ⟨m, ns, hm⟩ := hn 0 "value" u rfl rfl
    have FR : FrP K mg base A (envOfC "is_integer" (defScope sIsInteger) L f cdv) g := ⟨M, hx, rfl, rfl, rfl, hr.hd⟩
    have val : ∀ {pos : Pos}, EV P w A (envOfC "is_integer" (defScope sIsInteger) L f cdv) g (.Name "value" pos) x := ev_loc FR rfl ns hm ru
    obtain ⟨b1, b2, h1, h2, e⟩ := kitsI ty
    rw [← e]
    exact ev_and (ev_isi FR rfl G.isinstance val ty rfl G.int (by decide +kernel) h1) fun _ => ev_one (ev_not (ev_isi FR rfl G.isinstance val ty rfl G.bool (by decide +kernel) h2))
  · obtain ⟨x, t, h1, h2, h3⟩ := q
    exact ⟨x, t, h1, h2.mono e, h3⟩
theorem pf_is_number {f f1 : Addr} {fd fd1 : FuncData} (M : L2.Mod K mg base) (G : Mg mg) (F : Fun K "is_number" "is_number" sIsNumber f fd) (F1 : Fun K "is_integer" "is_integer" sIsInteger f1 fd1) (b1 : Binds K fd1 ["value"] []) (m1 : mg "is_integer" = some (.ref f1)) :
    PF P w K mg base 2 f fd ["value"] pNumber := by
  have G1 : PF P w K mg base 1 f1 fd1 ["value"] pInteger := pf_is_integer M G F1
  refine pf_ret M F scIsNumber rfl (by decide +kernel) (fun cdv A L g us vs v hr hx r hl h hn => ?_) fun vs g h v e q => ?_
  · obtain ⟨x, t, rfl, ty, rfl⟩ := h
    obtain ⟨u, rfl, ru⟩ := vals1 r
    obtain ⟨m, ns, hm⟩ := hn 0 "value" u rfl rfl
    have FR : FrP K mg base A (envOfC "is_number" (defScope sIsNumber) L f cdv) g := ⟨M, hx, rfl, rfl, rfl, hr.hd⟩
    have val : ∀ {pos : Pos}, EV P w A (envOfC "is_number" (defScope sIsNumber) L f cdv) g (.Name "value" pos) x := ev_loc FR rfl ns hm ru
    have one : ∀ {p q pos : Pos}, EV P w A (envOfC "is_number" (defScope sIsNumber) L f cdv) g (.Call (.Name "is_integer" p) [.Name "value" q] [] pos) (.bl (t == "int")) := fun {p q pos} =>
      ev_pf FR G1 hr rfl m1 F1.kp b1 (ea_cons val ea_nil) rfl fun h e => ⟨x, t, rfl, ty.mono e, rfl⟩
    cases ty with
    | int i => exact ev_and (x := true) (y := decide (i ≥ 0)) one fun _ => ev_one (ev_ge val ev_int)
    | non => exact ev_and (x := false) (y := false) one fun h => nomatch h
    | bl b => exact ev_and (x := false) (y := false) one fun h => nomatch h
    | str s => exact ev_and (x := false) (y := false) one fun h => nomatch h
    | tup s => exact ev_and (x := false) (y := false) one fun h => nomatch h
    | lst s => exact ev_and (x := false) (y := false) one fun h => nomatch h
  · obtain ⟨x, t, h1, h2, h3⟩ := q
    exact ⟨x, t, h1, h2.mono e, h3⟩
theorem pf_is_sequence {f : Addr} {fd : FuncData} (M : L2.Mod K mg base) (G : Mg mg) (F : Fun K "is_sequence" "is_sequence" sIsSequence f fd) : PF P w K mg base 1 f fd ["value"] pSequence := by
  refine pf_ret M F scIsSequence rfl (by decide +kernel) (fun cdv A L g us vs v hr hx r hl h hn => ?_) fun vs g h v e q => ?_
  · obtain ⟨x, t, rfl, ty, rfl⟩ := h
    obtain ⟨u, rfl, ru⟩ := vals1 r
    obtain ⟨m, ns, hm⟩ := hn 0 "value" u rfl rfl
    have FR : FrP K mg base A (envOfC "is_sequence" (defScope sIsSequence) L f cdv) g := ⟨M, hx, rfl, rfl, rfl, hr.hd⟩
    exact ev_isiT (Ts := ["list", "tuple"]) FR rfl G.isinstance (ev_loc FR rfl ns hm ru) ty (ea_cons (ev_blt FR rfl G.list (by decide +kernel) rfl) (ea_cons (ev_blt FR rfl G.tuple (by decide +kernel) rfl) ea_nil)) (kitsS ty) (by decide)
  · obtain ⟨x, t, h1, h2, h3⟩ := q
    exact ⟨x, t, h1, h2.mono e, h3⟩
theorem pf_is_of_parts {f f1 : Addr} {fd fd1 : FuncData} (M : L2.Mod K mg base) (G : Mg mg) (F : Fun K "is_of_parts" "is_of_parts" sIsOfParts f fd) (F1 : Fun K "is_sequence" "is_sequence" sIsSequence f1 fd1) (b1 : Binds K fd1 ["value"] []) (m1 : mg "is_sequence" = some (.ref f1)) :
    PF P w K mg base 2 f fd ["value", "many"] pOfParts := by
  have G1 : PF P w K mg base 1 f1 fd1 ["value"] pSequence := pf_is_sequence M G F1
  refine pf_ret M F scIsOfParts rfl (by decide +kernel) (fun cdv A L g us vs v hr hx r hl h hn => ?_) fun vs g h v e q => ?_
  · obtain ⟨x, n, k, rfl, pt, rfl⟩ := h
    obtain ⟨u, u2, rfl, ru, ru2⟩ := vals2 r
    obtain ⟨m, ns, hm⟩ := hn 0 "value" u rfl rfl
    obtain ⟨m2, ns2, hm2⟩ := hn 1 "many" u2 rfl rfl
    have FR : FrP K mg base A (envOfC "is_of_parts" (defScope sIsOfParts) L f cdv) g := ⟨M, hx, rfl, rfl, rfl, hr.hd⟩
    have val : ∀ {pos : Pos}, EV P w A (envOfC "is_of_parts" (defScope sIsOfParts) L f cdv) g (.Name "value" pos) x := ev_loc FR rfl ns hm ru
    have one : ∀ {t : String} {p q pos : Pos}, TyG g x t → EV P w A (envOfC "is_of_parts" (defScope sIsOfParts) L f cdv) g (.Call (.Name "is_sequence" p) [.Name "value" q] [] pos) (.bl (isSeq t)) := fun {t p q pos} ty =>
      ev_pf FR G1 hr rfl m1 F1.kp b1 (ea_cons val ea_nil) rfl fun h e => ⟨x, t, rfl, ty.mono e, rfl⟩
    cases pt with
    | @seq b a its q =>
      have s1 : isSeq (if b = true then "tuple" else "list") = true := by cases b <;> rfl
      refine ev_and (x := true) (y := decide ((its.length : Int) = k)) ?_ fun _ => ev_one (ev_eqI (ev_len FR rfl G.len val q) (ev_loc FR rfl ns2 hm2 ru2))
      rw [← s1]
      exact one (TyG.seq q)
    | @no _ t ty hno =>
      refine ev_and (x := false) (y := false) ?_ fun h => nomatch h
      rw [← hno]
      exact one ty
  · obtain ⟨x, n, k, h1, h2, h3⟩ := q
    exact ⟨x, n, k, h1, h2.mono e, h3⟩
theorem pf_is_stretch {f f1 f2 : Addr} {fd fd1 fd2 : FuncData} {f3 f4 : Addr} {fd3 fd4 : FuncData} (M : L2.Mod K mg base) (G : Mg mg) (F : Fun K "is_stretch" "is_stretch" sIsStretch f fd)
    (F1 : Fun K "is_of_parts" "is_of_parts" sIsOfParts f1 fd1) (b1 : Binds K fd1 ["value", "many"] []) (m1 : mg "is_of_parts" = some (.ref f1)) (F2 : Fun K "is_number" "is_number" sIsNumber f2 fd2) (b2 : Binds K fd2 ["value"] []) (m2 : mg "is_number" = some (.ref f2))
    (F3 : Fun K "is_sequence" "is_sequence" sIsSequence f3 fd3) (b3 : Binds K fd3 ["value"] []) (m3 : mg "is_sequence" = some (.ref f3)) (F4 : Fun K "is_integer" "is_integer" sIsInteger f4 fd4) (b4 : Binds K fd4 ["value"] []) (m4 : mg "is_integer" = some (.ref f4)) :
    PF P w K mg base 3 f fd ["value"] pStretch := by
  have G1 : PF P w K mg base 2 f1 fd1 ["value", "many"] pOfParts := pf_is_of_parts M G F1 F3 b3 m3
  have G2 : PF P w K mg base 2 f2 fd2 ["value"] pNumber := pf_is_number M G F2 F4 b4 m4
  refine pf_ret M F scIsStretch rfl (by decide +kernel) (fun cdv A L g us vs v hr hx r hl h hn => ?_) fun vs g h v e q => ?_
  · obtain ⟨x, b, rfl, st, rfl⟩ := h
    obtain ⟨u, rfl, ru⟩ := vals1 r
    obtain ⟨m, ns, hm⟩ := hn 0 "value" u rfl rfl
    have FR : FrP K mg base A (envOfC "is_stretch" (defScope sIsStretch) L f cdv) g := ⟨M, hx, rfl, rfl, rfl, hr.hd⟩
    have val : ∀ {pos : Pos}, EV P w A (envOfC "is_stretch" (defScope sIsStretch) L f cdv) g (.Name "value" pos) x := ev_loc FR rfl ns hm ru
    have parts : ∀ {n : Option Nat} {p q pos r : Pos} {k : Nat}, PartsG g x n → EV P w A (envOfC "is_stretch" (defScope sIsStretch) L f cdv) g (.Call (.Name "is_of_parts" p) [.Name "value" q, .Constant (.int 2) k r] [] pos)
        (.bl (match n with | some k => decide ((k : Int) = 2) | none => false)) := fun {n p q pos r k} pt => ev_pf FR G1 hr rfl m1 F1.kp b1 (ea_cons val (ea_cons ev_int ea_nil)) rfl fun h e => ⟨x, n, 2, rfl, pt.mono e, rfl⟩
    cases st with
    | @two b a u0 u1 y z t s q r0 r1 ty tz =>
      exact ev_and (x := true) (y := isNum y && isNum z) (parts (.seq q)) fun _ => ev_and (x := isNum y) (y := isNum z)
        (ev_pf FR G2 hr rfl m2 F2.kp b2 (ea_cons (ev_ix (j := 0) FR val ev_int q rfl r0) ea_nil) rfl fun h e => ⟨y, t, rfl, ty.mono e, rfl⟩)
        fun _ => ev_one (ev_pf FR G2 hr rfl m2 F2.kp b2 (ea_cons (ev_ix (j := 1) FR val ev_int q rfl r1) ea_nil) rfl fun h e => ⟨z, s, rfl, tz.mono e, rfl⟩)
    | @len b a its q n =>
      refine ev_and (x := false) (y := false) ?_ fun h => nomatch h
      have e : (false : Bool) = decide ((its.length : Int) = 2) := (decide_eq_false (by omega)).symm
      rw [e]
      exact parts (.seq q)
    | @no _ t ty n => exact ev_and (x := false) (y := false) (parts (.no ty n)) fun h => nomatch h
  · obtain ⟨x, b, h1, h2, h3⟩ := q
    exact ⟨x, b, h1, h2.mono e, h3⟩
end
end K10

set_option Elab.async false
set_option linter.all false
set_option maxRecDepth 100000
set_option maxHeartbeats 4000000
namespace K10
open PySem PySem.Spec PyProof.Rows L2 GxR Pu Evl
theorem scNeedNumber : FnScope ["value"] ["value"] (defScope sNeedNumber) := ⟨rfl, rfl, rfl, by decide +kernel, rfl, by decide +kernel, by decide +kernel⟩
theorem scIsKeep : FnScope ["value"] ["value"] (defScope sIsKeep) := ⟨rfl, rfl, rfl, by decide +kernel, rfl, by decide +kernel, by decide +kernel⟩
theorem scNeedKeep : FnScope ["keep"] ["keep"] (defScope sNeedKeep) := ⟨rfl, rfl, rfl, by decide +kernel, rfl, by decide +kernel, by decide +kernel⟩
theorem scCountsOf : FnScope ["keep", "many", "counts", "left", "here"] ["keep", "many"] (defScope sCountsOf) := ⟨rfl, rfl, rfl, by decide +kernel, rfl, by decide +kernel, by decide +kernel⟩
theorem scNeedRows : FnScope ["first", "laid"] ["first", "laid"] (defScope sNeedRows) := ⟨rfl, rfl, rfl, by decide +kernel, rfl, by decide +kernel, by decide +kernel⟩
/-- a promise of a value, of a new tuple -/
def spV (pre : List V → Hp → V → Prop) : Sp := fun vs H Q _ => ∃ v, pre vs H v ∧ ∀ H', Ex H H' → Q v H'
def spT (pre : List V → Hp → List V → Prop) : Sp := fun vs H Q _ => ∃ xs, pre vs H xs ∧ ∀ p H', H p = none → Ex H H' → H' p = some (.tup xs) → Q (.ref p) H'
theorem spV.use {pre : List V → Hp → V → Prop} {vs : List V} {H : Hp} {v : V} (h : ∀ H1, Ex H H1 → pre vs H1 v) : SpV (spV pre) vs H v := fun H1 e Q q E => ⟨v, h H1 e, q⟩
theorem spPure.use {P : Program} {w : World} {base : Heap} {ps : List Str} {sp : List V → Heap → V → Prop} {vs : List V} {H : Hp} {v : V} (hl : vs.length = ps.length) (h : ∀ H1, Ex H H1 → ∀ h, HOk P w H1 h → Ext base h → sp vs h v) :
    SpV (spPure P w base ps sp) vs H v := fun H1 e Q q E => ⟨hl, v, h H1 e, q H1 (Ex.refl H1)⟩
/-- the facts of all defs that others call -/
structure Fns (K : PySem.W.Frag) (mg : Str → Option Value) (x : Str) (ps : List Str) (st : Stmt) (f : Addr) (fd : FuncData) : Prop where
  fn : Fun K x x st f fd
  bd : Binds K fd ps []
  mg : mg x = some (.ref f)
section
variable {P : Program} {w : World} {K : PySem.W.Frag} {mg : Str → Option Value} {base : Heap}
variable {fInt fNum fSeq fPar fNN fIK fNK fCO fSF fNR fSh fSt fIS fFO fLS fLG fSA fFB : Addr} {dInt dNum dSeq dPar dNN dIK dNK dCO dSF dNR dSh dSt dIS dFO dLS dLG dSA dFB : FuncData}
def pNat : List V → Hp → V → Prop := fun vs H v => ∃ i : Int, vs = [.int i] ∧ 0 ≤ i ∧ v = .non
theorem ok_need_number {f : Addr} {fd : FuncData} (M : L2.Mod K mg base) (G : Mg mg) (F : Fun K "need_number" "need_number" sNeedNumber f fd) (F1 : Fns K mg "is_number" ["value"] sIsNumber fNum dNum) (F2 : Fns K mg "is_integer" ["value"] sIsInteger fInt dInt) :
    FnOk P w K mg base CX0 3 f fd ["value"] (spV pNat) := by
  have G1 : FnOk P w K mg base CX0 2 fNum dNum ["value"] (spPure P w base ["value"] pNumber) := (pf_is_number M G F1.fn F2.fn F2.bd F2.mg).ok
  refine F.ok scNeedNumber (fun vs H Q E h => ?_) (fun cdv A outer s H vs Q E hr h => ?_)
  · obtain ⟨v, ⟨i, rfl, _⟩, _⟩ := h
    rfl
  · obtain ⟨v, ⟨i, rfl, hi, rfl⟩, k⟩ := h
    refine ⟨_, pss_one (ps_if (pt_not (pt_val (pe_call G1 hr (by rfl) F1.mg F1.fn.kp F1.bd .nil pass0 (pa_cons (pv 0) pa_nil)))) pss_never pss_nil), ?_⟩
    have e1 : EvT (tNot (tB (tCall (spPure P w base ["value"] pNumber) [] E0 (tCons (tVar 0) tNil)))) (start ["value"] [V.int i]) H (!true) :=
      et_not (et_B (ev_call (ea_cons (ev_var rfl) ea_nil) (spPure.use rfl fun H1 _ h _ _ => ⟨.int i, "int", rfl, .int i, by rw [show isNum (.int i) = decide (i ≥ 0) from rfl, decide_eq_true hi]⟩)))
    exact s_if e1 (fun z => nomatch z) fun _ H1 e => k H1 e
def pKeepB : List V → Hp → V → Prop := fun vs H v => ∃ i : Int, vs = [.int i] ∧ 2 ≤ i ∧ i ≤ 8 ∧ v = .bl true
theorem ok_is_keep {f : Addr} {fd : FuncData} (M : L2.Mod K mg base) (G : Mg mg) (F : Fun K "is_keep" "is_keep" sIsKeep f fd) (F2 : Fns K mg "is_integer" ["value"] sIsInteger fInt dInt) :
    FnOk P w K mg base CX0 2 f fd ["value"] (spV pKeepB) := by
  have G1 : FnOk P w K mg base CX0 1 fInt dInt ["value"] (spPure P w base ["value"] pInteger) := (pf_is_integer M G F2.fn).ok
  refine F.ok scIsKeep (fun vs H Q E h => ?_) (fun cdv A outer s H vs Q E hr h => ?_)
  · obtain ⟨v, ⟨i, rfl, _⟩, _⟩ := h
    rfl
  · obtain ⟨v, ⟨i, rfl, h2, h8, rfl⟩, k⟩ := h
    refine ⟨_, pss_one (ps_ret (pe_and (pe_call G1 hr (by rfl) F2.mg F2.fn.kp F2.bd .nil pass0 (pa_cons (pv 0) pa_nil)) (pe_one (pe_chain op_le op_le pe_int (pv 0) pe_int)))), ?_⟩
    have e1 : Ev (tCall (spPure P w base ["value"] pInteger) [] E0 (tCons (tVar 0) tNil)) (start ["value"] [V.int i]) H (.bl true) :=
      ev_call (ea_cons (ev_var rfl) ea_nil) (spPure.use rfl fun H1 _ h _ _ => ⟨.int i, "int", rfl, .int i, rfl⟩)
    refine e1 H (Ex.refl H) _ fun H2 e2 => ⟨true, rfl, iteT ⟨.int i, rfl, 2, i, rfl, rfl, true, by show V.bl (decide (2 ≤ i)) = _; rw [decide_eq_true h2], iteT ⟨i, 8, rfl, rfl, ?_⟩⟩⟩
    show Q (V.bl (decide (i ≤ 8))) H2
    rw [decide_eq_true h8]
    exact k H2 e2
def pKeep : List V → Hp → V → Prop := fun vs H v => ∃ i : Int, vs = [.int i] ∧ 2 ≤ i ∧ i ≤ 8 ∧ v = .non
theorem ok_need_keep {f : Addr} {fd : FuncData} (M : L2.Mod K mg base) (G : Mg mg) (F : Fun K "need_keep" "need_keep" sNeedKeep f fd) (F1 : Fns K mg "is_keep" ["value"] sIsKeep fIK dIK) (F2 : Fns K mg "is_integer" ["value"] sIsInteger fInt dInt) :
    FnOk P w K mg base CX0 3 f fd ["keep"] (spV pKeep) := by
  have G1 : FnOk P w K mg base CX0 2 fIK dIK ["value"] (spV pKeepB) := ok_is_keep M G F1.fn F2
  refine F.ok scNeedKeep (fun vs H Q E h => ?_) (fun cdv A outer s H vs Q E hr h => ?_)
  · obtain ⟨v, ⟨i, rfl, _⟩, _⟩ := h
    rfl
  · obtain ⟨v, ⟨i, rfl, h2, h8, rfl⟩, k⟩ := h
    refine ⟨_, pss_one (ps_if (pt_not (pt_val (pe_call G1 hr (by rfl) F1.mg F1.fn.kp F1.bd .nil pass0 (pa_cons (pv 0) pa_nil)))) pss_never pss_nil), ?_⟩
    have e1 : EvT (tNot (tB (tCall (spV pKeepB) [] E0 (tCons (tVar 0) tNil)))) (start ["keep"] [V.int i]) H (!true) :=
      et_not (et_B (ev_call (ea_cons (ev_var rfl) ea_nil) (spV.use fun H1 _ => ⟨i, rfl, h2, h8, rfl⟩)))
    exact s_if e1 (fun z => nomatch z) fun _ H1 e => k H1 e
def pRows : List V → Hp → V → Prop := fun vs H v => ∃ i j : Int, vs = [.int i, .int j] ∧ 0 ≤ i ∧ i ≤ j ∧ v = .non
theorem ok_need_rows {f : Addr} {fd : FuncData} (M : L2.Mod K mg base) (G : Mg mg) (F : Fun K "need_rows" "need_rows" sNeedRows f fd) (F0 : Fns K mg "need_number" ["value"] sNeedNumber fNN dNN) (F1 : Fns K mg "is_number" ["value"] sIsNumber fNum dNum) (F2 : Fns K mg "is_integer" ["value"] sIsInteger fInt dInt) :
    FnOk P w K mg base CX0 4 f fd ["first", "laid"] (spV pRows) := by
  have G0 : FnOk P w K mg base CX0 3 fNN dNN ["value"] (spV pNat) := ok_need_number M G F0.fn F1 F2
  have G1 : FnOk P w K mg base CX0 2 fNum dNum ["value"] (spPure P w base ["value"] pNumber) := (pf_is_number M G F1.fn F2.fn F2.bd F2.mg).ok
  refine F.ok scNeedRows (fun vs H Q E h => ?_) (fun cdv A outer s H vs Q E hr h => ?_)
  · obtain ⟨v, ⟨i, j, rfl, _⟩, _⟩ := h
    rfl
  · obtain ⟨v, ⟨i, j, rfl, hi, hj, rfl⟩, k⟩ := h
    refine ⟨_, pss_cons (ps_expr (pe_call G0 hr (by rfl) F0.mg F0.fn.kp F0.bd .nil pass0 (pa_cons (pv 0) pa_nil)))
      (pss_one (ps_if (PW.pt (pw_or (pt_not (pt_val (pe_call G1 (hr.mono (by decide)) (by rfl) F1.mg F1.fn.kp F1.bd .nil pass0 (pa_cons (pv 1) pa_nil)))) (pw_or1 (pt_cmpR op_lt (pv 1) (pv 0) (nomark _))))) pss_never pss_nil)), ?_⟩
    refine q_drop (v := .non) (ev_call (ea_cons (ev_var rfl) ea_nil) (spV.use fun H1 _ => ⟨i, rfl, hi, rfl⟩)) fun H1 e1 => ?_
    have t1 : EvT (tNot (tB (tCall (spPure P w base ["value"] pNumber) [] E0 (tCons (tVar 1) tNil)))) (start ["first", "laid"] [V.int i, V.int j]) H1 (!true) :=
      et_not (et_B (ev_call (ea_cons (ev_var rfl) ea_nil) (spPure.use rfl fun H1 _ h _ _ => ⟨.int j, "int", rfl, .int j, by rw [show isNum (.int j) = decide (j ≥ 0) from rfl, decide_eq_true (by omega)]⟩)))
    have t2 : EvT (tTest (tOp (rI0 fun i j => .bl (decide (i < j))) (tVar 1) (tVar 0))) (start ["first", "laid"] [V.int i, V.int j]) H1 (decide (j < i)) := et_test (ev_op (ev_var rfl) (ev_var rfl) rv_I0)
    have t3 := et_is (et_or t1 fun _ => t2) (show (!true || decide (j < i)) = false by rw [decide_eq_false (by omega)]; rfl)
    exact s_if t3 (fun z => nomatch z) fun _ H2 e2 => k H2 (e1.trans e2)
def natsV (cs : List Nat) : List V := cs.map fun c => .int (c : Nat)
def pCounts : List V → Hp → List V → Prop := fun vs H xs => ∃ k m : Nat, vs = [.int k, .int m] ∧ 2 ≤ k ∧ k ≤ 8 ∧ m ≤ 10000 ∧ xs = natsV (Sh.counts k m)
theorem ok_counts_of {f : Addr} {fd : FuncData} (M : L2.Mod K mg base) (G : Mg mg) (F : Fun K "counts_of" "counts_of" sCountsOf f fd) (F0 : Fns K mg "need_keep" ["keep"] sNeedKeep fNK dNK) (F1 : Fns K mg "is_keep" ["value"] sIsKeep fIK dIK) (F2 : Fns K mg "is_integer" ["value"] sIsInteger fInt dInt) :
    FnOk P w K mg base CX0 4 f fd ["keep", "many"] (spT pCounts) := by
  have G0 : FnOk P w K mg base CX0 3 fNK dNK ["keep"] (spV pKeep) := ok_need_keep M G F0.fn F1 F2
  refine F.ok scCountsOf (fun vs H Q E h => ?_) (fun cdv A outer s H vs Q E hr h => ?_)
  · obtain ⟨xs, ⟨k, m, rfl, _⟩, _⟩ := h
    rfl
  · obtain ⟨xs, ⟨k, m, rfl, h2, h8, hm, rfl⟩, kk⟩ := h
    refine ⟨_, pss_cons (ps_expr (pe_call G0 hr (by rfl) F0.mg F0.fn.kp F0.bd .nil pass0 (pa_cons (pv 0) pa_nil)))
      (pss_cons (ps_set (i := 2) scCountsOf.nd rfl (.inl rfl) (pe_lst pa_nil))
      (pss_cons (ps_set (i := 3) scCountsOf.nd rfl (.inl rfl) (pv 1))
      (pss_cons (ps_while PassesOwn.never (pt_cmpR op_gt (pv 3) (pv 0) (nomark _))
        (pss_cons (ps_set (i := 4) scCountsOf.nd rfl (.inl rfl) (pe_op op_sub (pv 0) (pe_op op_mod (pe_op op_sub (pv 3) (pv 0)) pe_int)))
        (pss_cons (ps_expr (pe_bm PySem.F.plainAttrs_list PySem.F.slot_list_append PySem.F.type_list_append mt_append (pv 2) (pa_cons (pv 4) pa_nil)))
        (pss_one (ps_set (i := 3) scCountsOf.nd rfl (.inl rfl) (pe_op op_fdiv (pe_op op_sub (pv 3) (pv 4)) pe_int))))))
      (pss_cons (ps_if (pt_cmpR op_gt (pv 3) pe_int (nomark _)) (pss_one (ps_expr (pe_bm PySem.F.plainAttrs_list PySem.F.slot_list_append PySem.F.type_list_append mt_append (pv 2) (pa_cons (pv 3) pa_nil)))) pss_nil)
      (pss_one (ps_ret (pe_callTy call_tuple_of (by rfl) G.tuple (by decide +kernel) (pa_cons (pv 2) pa_nil)))))))), ?_⟩
    refine q_drop (v := .non) (ev_call (ea_cons (ev_var rfl) ea_nil) (spV.use fun H1 _ => ⟨k, rfl, by omega, by omega, rfl⟩)) fun H1 e1 => ?_
    refine q_asgL (xs := []) (el_lst ea_nil (by decide)) fun p H2 hp e2 h2' => ?_
    refine q_asg (v := .int m) (ev_var rfl) fun H3 e3 => ?_
    have hp0 : H p = none := fresh_back e1 hp
    refine q_while (fun n σ' H' => ∃ (dn : List Nat) (y : Option V), σ' = [some (.int k), some (.int m), some (.ref p), some (.int (n : Nat)), y] ∧ Ex H H' ∧ H' p = some (.lst (natsV dn)) ∧ Sh.counts k m = dn ++ Sh.counts k n ∧ dn.length + n ≤ m) m
      ⟨[], none, rfl, (e1.trans e2).trans e3, e3 p _ h2', rfl, by simp⟩ fun n σ' H' hw => ?_
    obtain ⟨dn, y, rfl, ex, hH, hc, hn⟩ := hw
    refine ⟨decide ((k : Int) < (n : Int)), et_test (ev_op (ev_var rfl) (ev_var rfl) rv_I0), fun hb H4 e4 => ?_, fun hb H4 e4 => ?_⟩
    · have hkn : k < n := by have := of_decide_eq_true hb; omega
      have eh : ((k : Int) - ((n : Int) - (k : Int)) % 2) = ((k - (n - k) % 2 : Nat) : Int) := by omega
      have ed : (((n : Nat) : Int) - ((k - (n - k) % 2 : Nat) : Int)) / 2 = (((n - (k - (n - k) % 2)) / 2 : Nat) : Int) := by omega
      refine ⟨fun σ2 H5 => ∃ (dn' : List Nat) (y : Option V) (n' : Nat), n' < n ∧ σ2 = [some (.int k), some (.int m), some (.ref p), some (.int (n' : Nat)), y] ∧ Ex H H5 ∧ H5 p = some (.lst (natsV dn')) ∧ Sh.counts k m = dn' ++ Sh.counts k n' ∧ dn'.length + n' ≤ m, fun σ2 H5 hN => ?_, ?_⟩
      · obtain ⟨dn', y, n', hlt, a, b, c, d, e⟩ := hN
        exact ⟨n', hlt, dn', y, a, b, c, d, e⟩
      refine q_asg (v := .int ((k - (n - k) % 2 : Nat) : Int)) (ev_is (ev_op (ev_var rfl) (ev_op (ev_op (ev_var rfl) (ev_var rfl) rv_I0) ev_c (rv_I (by decide))) rv_I0) (by rw [eh])) fun H5 e5 => ?_
      have hp5 : H5 p = some (.lst (natsV dn)) := e5 p _ (e4 p _ hH)
      refine q_app (K := K) hp5 (ev_var rfl) (ev_var (v := .int ((k - (n - k) % 2 : Nat) : Int)) rfl) (by unfold natsV; rw [List.length_map]; omega) fun H6 e6 => ?_
      refine s_asg (v := .int (((n - (k - (n - k) % 2)) / 2 : Nat) : Int)) (ev_is (ev_op (ev_op (ev_var rfl) (ev_var rfl) rv_I0) ev_c (rv_I ⟨by decide, by decide⟩)) (by rw [ed])) fun H7 e7 => ?_
      refine ⟨dn ++ [k - (n - k) % 2], _, (n - (k - (n - k) % 2)) / 2, by omega, rfl, ?_, ?_, ?_, ?_⟩
      · exact (Ex.mut (((ex.trans e4).trans e5).trans e6) hp0).trans e7
      · refine e7 p _ ?_
        rw [upd_same]
        unfold natsV
        rw [List.map_append]
        rfl
      · rw [hc, Sh.counts_big hkn h2, List.append_assoc]
        rfl
      · rw [List.length_append, List.length_singleton]
        omega
    · have hkn : ¬ k < n := fun z => of_decide_eq_false hb (by omega)
      have hs : Sh.counts k n = if 0 < n then [n] else [] := Sh.counts_small hkn
      have fin : ∀ (H5 : Hp) (σ5 : L2.St), σ5[2]? = some (some (.ref p)) → Ex H H5 → H5 p = some (.lst (natsV (Sh.counts k m))) →
          tRet (tCB (fun xs H Q => ∃ p ys, xs = [.ref p] ∧ ((SqL K H p ys ∧ ∀ l, H l = none → Q (.ref l) (upd H l (.tup ys))) ∨ (SqT K H p ys ∧ Q (.ref p) H))) (tCons (tVar 2) tNil)) { nx := fun x H' => Q V.non H', rt := Q } σ5 H5 := fun H5 σ5 hσ ex5 hp5 =>
        ⟨_, hσ, p, _, rfl, .inl ⟨SqL.of hp5, fun l hl => kk l _ (fresh_back ex5 hl) (ex5.trans (Ex.new hl)) upd_same⟩⟩
      refine q_when (b := decide ((0 : Int) < (n : Int))) (et_test (ev_op (ev_var rfl) ev_c rv_I0)) (fun hb2 H5 e5 => ?_) fun hb2 H5 e5 => ?_
      · have h0 : 0 < n := by have := of_decide_eq_true hb2; omega
        have hp5 : H5 p = some (.lst (natsV dn)) := e5 p _ (e4 p _ hH)
        refine s_app (K := K) hp5 (ev_var rfl) (ev_var (v := .int (n : Nat)) rfl) (by unfold natsV; rw [List.length_map]; omega) fun H6 e6 => ?_
        refine fin _ _ rfl (Ex.mut (((ex.trans e4).trans e5).trans e6) hp0) ?_
        rw [upd_same, hc, hs, if_pos h0]
        unfold natsV
        rw [List.map_append]
        rfl
      · have h0 : ¬ 0 < n := fun z => of_decide_eq_false hb2 (by omega)
        refine fin _ _ rfl ((ex.trans e4).trans e5) ?_
        rw [hc, hs, if_neg h0, List.append_nil]
        exact e5 p _ (e4 p _ hH)
end
end K10

set_option Elab.async false
set_option linter.all false
set_option maxRecDepth 100000
set_option maxHeartbeats 4000000
namespace Pu
open PySem PySem.Spec PyProof.Rows L2 GxR Evl
/-- a comprehension: acc by the turn and the heap -/
theorem lc_gen {J : It} {n : Nat} {G : Hp → Prop} {Y : Nat → Hp → V → Hp → Prop} (w : Walk J n G Y) {g : TG} {tt : TT} {te : TE} {vs : List Nat} {σ : L2.St} {H1 : Hp} {D : Addr} {Qd : Hp → Prop} (R : Nat → Hp → List V → Prop) (hn : n ≤ 40000) (hD : H1 D = none)
    (hU : ∀ i H xs ys acc, H D = some (.lst xs) → R i H acc → R i (upd H D (.lst ys)) acc) (h0 : R 0 (upd H1 D (.lst [])) []) (hG : ∀ H, Ex H1 H → G H)
    (turn : ∀ i x H H' acc, i < n → Ex H1 H → Y i H x H' → R i H acc → ∀ (Qy : V → Hp → Prop) (Qn : Hp → Prop), (∀ y H4, Ex H H4 → R (i + 1) H4 (acc ++ [y]) → Qy y H4) → (∀ H3, Ex H H3 → R (i + 1) H3 acc → Qn H3) →
      g x (wipe σ vs) H' fun σ2 H2 => wipe σ2 vs = wipe σ vs ∧ tt σ2 H2 fun b H3 => if b = true then te σ2 H3 Qy else Qn H3)
    (hd : ∀ H acc, Ex H1 H → H D = some (.lst acc) → R n H acc → Qd H) :
    ∃ W : Nat → Nat → Hp → Prop, (∃ m, W 0 m (upd H1 D (.lst []))) ∧ ∀ i m H, W i m H →
      (J.stop i H ∧ Qd H) ∨ (J.go i H ∧ ∃ Nx : Hp → Prop, (∀ H', Nx H' → ∃ m', m' < m ∧ W (i + 1) m' H') ∧ ∀ x H', J.yld i H x H' → g x (wipe σ vs) H' fun σ2 H2 => wipe σ2 vs = wipe σ vs ∧ tt σ2 H2 fun b H3 =>
        if b = true then te σ2 H3 fun y H4 => ∃ acc, H4 D = some (.lst acc) ∧ acc.length < sizeLine ∧ Nx (upd H4 D (.lst (acc ++ [y]))) else Nx H3) := by
  refine lc_it w (fun i H => Ex H1 H ∧ ∃ acc, H D = some (.lst acc) ∧ acc.length ≤ i ∧ R i H acc) ⟨Ex.new hD, [], upd_same, Nat.le_refl _, h0⟩ (fun i H _ p => hG H p.1) (fun i x H H' hi p y => ?_) fun H p => ?_
  · obtain ⟨ex, acc, hH, hl, hR⟩ := p
    refine turn i x H H' acc hi ex y hR _ _ (fun v H4 e4 r4 => ?_) fun H3 e3 r3 => ⟨ex.trans e3, acc, e3 D _ hH, Nat.le_succ_of_le hl, r3⟩
    have hz : acc.length < sizeLine := Nat.lt_of_le_of_lt (show acc.length ≤ 40000 by omega) (by decide)
    refine ⟨acc, e4 D _ hH, hz, Ex.mut (ex.trans e4) hD, acc ++ [v], upd_same, ?_, hU _ _ _ _ _ (e4 D _ hH) r4⟩
    rw [List.length_append, List.length_singleton]
    omega
  · obtain ⟨ex, acc, hH, _, hR⟩ := p
    exact hd H acc ex hH hR
theorem yes_then {te : TE} {σ : L2.St} {H : Hp} {Qy : VK} {Qn : Hp → Prop} (h : te σ H Qy) : tYes σ H fun b H3 => if b = true then te σ H3 Qy else Qn H3 := by
  show (if true = true then te σ H Qy else Qn H)
  rw [if_pos rfl]
  exact h
/-- pairs of numbers, each a tuple -/
def PrT (H : Hp) (L : List (Nat × Nat)) (xs : List V) : Prop := Paired (fun (p : Nat × Nat) (v : V) => ∃ b, v = .ref b ∧ H b = some (.tup [.int (p.1 : Nat), .int (p.2 : Nat)])) L xs
theorem PrT.ex {H H' : Hp} {L : List (Nat × Nat)} {xs : List V} (h : PrT H L xs) (e : Ex H H') : PrT H' L xs := Paired.mapP h fun p v ⟨b, h1, h2⟩ => ⟨b, h1, e _ _ h2⟩
theorem PrT.upd {H : Hp} {L : List (Nat × Nat)} {xs ys : List V} {D : Addr} {o : HO} (h : PrT H L xs) (hD : H D = some (.lst ys)) : PrT (upd H D o) L xs := Paired.mapP h fun p v ⟨b, h1, h2⟩ =>
  ⟨b, h1, by rw [upd_ne (ne_of h2 hD (by intro z; cases z))]; exact h2⟩
theorem Paired.app {α β : Type} {F : α → β → Prop} : ∀ {l : List α} {m : List β} {l' : List α} {m' : List β}, Paired F l m → Paired F l' m' → Paired F (l ++ l') (m ++ m')
  | _, _, _, _, .nil, s => s
  | _, _, _, _, .cons r t, s => .cons r (Paired.app t s)
theorem PrT.snoc {H : Hp} {L : List (Nat × Nat)} {xs : List V} {p : Nat × Nat} {b : Addr} (h : PrT H L xs) (e : H b = some (.tup [.int (p.1 : Nat), .int (p.2 : Nat)])) : PrT H (L ++ [p]) (xs ++ [.ref b]) := Paired.app h (.cons ⟨b, rfl, e⟩ .nil)
theorem Paired.at {α β : Type} {F : α → β → Prop} : ∀ {l : List α} {m : List β} {i : Nat} {y : β}, Paired F l m → m[i]? = some y → ∃ x, l[i]? = some x ∧ F x y
  | _, _, _, _, .nil, e => by simp at e
  | _, _, 0, _, .cons r _, e => by simp at e; subst e; exact ⟨_, rfl, r⟩
  | _, _, i + 1, y, .cons _ t, e => by
    obtain ⟨x, h1, h2⟩ := Paired.at (i := i) (y := y) t (by simpa using e)
    exact ⟨x, by simpa using h1, h2⟩
theorem PrT.len {H : Hp} {L : List (Nat × Nat)} {xs : List V} (h : PrT H L xs) : L.length = xs.length := Paired.length h
/-- the call of a def that hands back a new tuple -/
theorem eu_call {pre : List V → Hp → List V → Prop} {K : PySem.W.Frag} {σ : L2.St} {H : Hp} {ta : TA} {vs xs : List V} {E : XK} (h : EvA ta σ H vs) (hp : ∀ H1, Ex H H1 → pre (vs ++ []) H1 xs) :
    EvU (tCall (fun vs H Q _ => ∃ xs, pre vs H xs ∧ ∀ p H', H p = none → Ex H H' → H' p = some (.tup xs) → Q (.ref p) H') [] E ta) σ H xs := fun H1 e Q q =>
  h H1 e _ fun H2 e2 => ⟨xs, hp H2 (e.trans e2), fun p H3 hn e3 h3 => q p H3 (fresh_back e2 hn) (e2.trans e3) h3⟩
end Pu
namespace K10
open PySem PySem.Spec PyProof.Rows L2 GxR Pu Evl
def spSh (pre : List V → Hp → List (Nat × Nat) → Prop) : Sp := fun vs H Q _ => ∃ L, pre vs H L ∧ ∀ p xs H', H p = none → Ex H H' → H' p = some (.tup xs) → PrT H' L xs → Q (.ref p) H'
theorem scShapeFrom : FnScope ["keep", "first", "laid", "some", "row", "count", "sizes", "size", "place"] ["keep", "first", "laid"] (defScope sShapeFrom) := ⟨rfl, rfl, rfl, by decide +kernel, rfl, by decide +kernel, by decide +kernel⟩
theorem scShape : FnScope ["keep", "first", "laid"] ["keep", "first", "laid"] (defScope sShape) := ⟨rfl, rfl, rfl, by decide +kernel, rfl, by decide +kernel, by decide +kernel⟩
def pShape : List V → Hp → List (Nat × Nat) → Prop := fun vs H L => ∃ k f l : Nat, vs = [.int k, .int f, .int l] ∧ 2 ≤ k ∧ k ≤ 8 ∧ f ≤ l ∧ l ≤ 10000 ∧ L = Sh.shp k f l
/-- sizes and counts -/
def szs (cs : List Nat) : List (Nat × Nat) := (List.range cs.length).map fun i => (2 ^ i, cs.getD i 0)
theorem szs_get {cs : List Nat} {i : Nat} (h : i < cs.length) : (szs cs)[i]? = some (2 ^ i, cs.getD i 0) := by
  unfold szs
  rw [List.getElem?_map, List.getElem?_range h]
  rfl
theorem drop_cons {cs : List Nat} {i : Nat} (h : i < cs.length) : cs.drop i = cs.getD i 0 :: cs.drop (i + 1) := by
  rw [List.drop_eq_getElem_cons h, List.getD_eq_getElem?_getD, List.getElem?_eq_getElem h]
  rfl
section
variable {P : Program} {w : World} {K : PySem.W.Frag} {mg : Str → Option Value} {base : Heap}
variable {fInt fNum fSeq fPar fNN fIK fNK fCO fSF fNR fSh fSt fIS fFO fLS fLG fSA fFB : Addr} {dInt dNum dSeq dPar dNN dIK dNK dCO dSF dNR dSh dSt dIS dFO dLS dLG dSA dFB : FuncData}
theorem ok_shape_from {f : Addr} {fd : FuncData} (M : L2.Mod K mg base) (G : Mg mg) (F : Fun K "shape_from" "shape_from" sShapeFrom f fd) (FC : Fns K mg "counts_of" ["keep", "many"] sCountsOf fCO dCO) (F0 : Fns K mg "need_keep" ["keep"] sNeedKeep fNK dNK) (F1 : Fns K mg "is_keep" ["value"] sIsKeep fIK dIK) (F2 : Fns K mg "is_integer" ["value"] sIsInteger fInt dInt) :
    FnOk P w K mg base CX0 5 f fd ["keep", "first", "laid"] (spSh pShape) := by
  have GC : FnOk P w K mg base CX0 4 fCO dCO ["keep", "many"] (spT pCounts) := ok_counts_of M G FC.fn F0 F1 F2
  refine F.ok scShapeFrom (fun vs H Q E h => ?_) (fun cdv A outer s H vs Q E hr h => ?_)
  · obtain ⟨L, ⟨k, f, l, rfl, _⟩, _⟩ := h
    rfl
  · obtain ⟨L, ⟨k, f, l, rfl, h2, h8, hfl, hl, rfl⟩, kk⟩ := h
    refine ⟨_, pss_cons (ps_set (i := 3) scShapeFrom.nd rfl (.inl rfl) (pe_lst pa_nil))
      (pss_cons (ps_set (i := 4) scShapeFrom.nd rfl (.inr rfl) (pv 1))
      (pss_cons (ps_setLc (i := 6) (own := [("place", 8), ("count", 5)]) (g := gTup K 2 (gCons (gName 8) (gCons (gName 5) gNil))) (by rfl) scShapeFrom.nd rfl rfl (sw_true rfl rfl rfl (by decide +kernel))
          (pi_enumT (by rfl) G.enumerate (pa_cons (pe_call GC hr (by rfl) FC.mg FC.fn.kp FC.bd .nil pass0 (pa_cons (pv 0) (pa_cons (pe_op op_sub (pv 2) (pv 1)) pa_nil))) pa_nil))
          (blkOk_by (own := [("place", 8), ("count", 5)]) (N := ["keep", "first", "laid", "some", "row", "count", "sizes", "size", "place"]) (sc := defScope sShapeFrom) (by decide +kernel))
          (fun _ _ _ _ _ => pg_tup rfl (pgs_cons (pg_name (i := 8) scShapeFrom.nd rfl (.inl rfl)) (pgs_cons (pg_name (i := 5) scShapeFrom.nd rfl (.inl rfl)) pgs_nil)))
          (fun _ _ _ _ _ => pts_nil) (fun _ _ _ _ _ => pe_tup (pa_cons (pe_op op_shl pe_int (pv 8)) (pa_cons (pv 5) pa_nil))))
      (pss_cons (ps_for PassesOwn.never rfl (pi_reversed (by rfl) G.reversed (pa_cons (pv 6) pa_nil)) (pg_tup rfl (pgs_cons (pg_name (i := 7) scShapeFrom.nd rfl (.inr rfl)) (pgs_cons (pg_name (i := 5) scShapeFrom.nd rfl (.inl rfl)) pgs_nil)))
        (pss_cons (ps_expr (pe_bm PySem.F.plainAttrs_list PySem.F.slot_list_extend PySem.F.type_list_extend mt_extend (pv 3) (pa_cons
            (pe_lc (own := [("place", 8)]) (by rfl) scShapeFrom.nd (pi_range1 (by rfl) G.range (pa_cons (pv 5) pa_nil))
              (blkOk_by (own := [("place", 8)]) (N := ["keep", "first", "laid", "some", "row", "count", "sizes", "size", "place"]) (sc := defScope sShapeFrom) (by decide +kernel))
              (fun _ _ _ _ _ => pg_name (i := 8) scShapeFrom.nd rfl (.inl rfl)) (fun _ _ _ _ _ => pts_nil)
              (fun _ _ _ _ _ => pe_tup (pa_cons (pe_op op_add (pv 4) (pe_op op_mul (pv 7) (pv 8))) (pa_cons (pv 7) pa_nil)))) pa_nil)))
        (pss_one (ps_aug (i := 4) scShapeFrom.nd rfl (.inr rfl) (pe_op op_mul (pv 7) (pv 5)) ip_add))))
      (pss_one (ps_ret (pe_callTy call_tuple_of (by rfl) G.tuple (by decide +kernel) (pa_cons (pv 3) pa_nil))))))), ?_⟩
    generalize hcs : Sh.counts k (l - f) = cs
    have hlen : cs.length ≤ 10000 := by
      rw [← hcs]
      have := Sh.counts_len k h2 (l - f)
      omega
    have hle : ∀ i, cs.getD i 0 ≤ 8 := fun i => by
      rw [← hcs]
      have := Sh.counts_le h2 (l - f) i
      omega
    have htot : ∀ i, Sh.tot (cs.drop i) (2 ^ i) ≤ 10000 := fun i => by
      have a := Sh.tot_drop cs i
      rw [← hcs, Sh.counts_tot h2] at a
      rw [← hcs]
      omega
    -- some = [], row = first
    refine q_asgL (xs := []) (el_lst ea_nil (by decide)) fun p H1 hp e1 h1 => ?_
    refine q_asg (v := .int f) (ev_var rfl) fun H2 e2 => ?_
    -- sizes = [..]
    have ec : EvU (tCall (spT pCounts) [] E0 (tCons (tVar 0) (tCons (tOp (rI0 fun i j => .int (i - j)) (tVar 2) (tVar 1)) tNil)))
        [some (.int k), some (.int f), some (.int l), some (.ref p), some (.int f), none, none, none, none] H2 (natsV cs) :=
      eu_call (pre := pCounts) (vs := [.int k, .int ((l : Int) - (f : Int))]) (K := K) (ea_cons (ev_var rfl) (ea_cons (ev_op (ev_var rfl) (ev_var rfl) rv_I0) ea_nil))
        (fun Hx _ => ⟨k, l - f, by rw [show ((l - f : Nat) : Int) = (l : Int) - (f : Int) by omega]; rfl, h2, h8, by omega, by rw [hcs]⟩)
    refine ec H2 (Ex.refl H2) _ fun c H3 hc e3 h3 => ?_
    refine ⟨c, natsV cs, rfl, SqT.of h3, fun D hD => ?_⟩
    have hncs : (natsV cs).length = cs.length := by unfold natsV; rw [List.length_map]
    refine lc_gen (walk_enumT (K := K) (a := c) (xs := natsV cs)) (fun i H acc => PrT H ((szs cs).take i) acc) (by rw [hncs]; omega) hD (fun i H xs ys acc h r => r.upd h) .nil (fun H e => SqT.of (e c _ h3)) ?_ ?_
    · intro i x Ha Hb acc hi ex y hR Qy Qn hy hn
      obtain ⟨T, a, b, rfl, hT, rfl, ha, hb⟩ := y
      rw [hncs] at hi
      have ea : a = .int (i : Nat) := (Option.some.inj ha).symm
      have eb : b = .int (cs.getD i 0 : Nat) := by
        have q : (natsV cs)[i]? = some b := hb
        unfold natsV at q
        rw [List.getElem?_map, List.getElem?_eq_getElem hi] at q
        rw [List.getD_eq_getElem?_getD, List.getElem?_eq_getElem hi]
        exact (Option.some.inj q).symm
      subst ea eb
      refine ⟨T, _, rfl, SqT.of upd_same, rfl, _, _, rfl, _, _, rfl, rfl, rfl, yes_then ?_⟩
      have pw : (1 : Int) * 2 ^ ((i : Nat) : Int).toNat = ((2 ^ i : Nat) : Int) := by
        rw [Int.toNat_natCast, Int.one_mul]
        exact (Int.natCast_pow 2 i).symm
      refine eu_tup (vs := [.int ((2 ^ i : Nat) : Int), .int (cs.getD i 0 : Nat)]) (ea_cons (ev_is (ev_op ev_c (ev_var (v := .int (i : Nat)) rfl) (rv_I ⟨by omega, by omega, by decide⟩)) (by rw [pw])) (ea_cons (ev_var rfl) ea_nil)) (by show 2 ≤ 100000; decide) _ (Ex.refl _) _ fun q H5 hq e5 h5 => ?_
      refine hy _ _ ((Ex.new hT).trans e5) ?_
      rw [List.take_add_one, szs_get hi]
      exact (hR.ex ((Ex.new hT).trans e5)).snoc h5
    · intro H4 refs e4 hDr hR
      rw [hncs, List.take_of_length_le (by unfold szs; rw [List.length_map, List.length_range]; exact Nat.le_refl _)] at hR
      have ex4 : Ex H H4 := ((e1.trans e2).trans e3).trans e4
      have hrl : refs.length = cs.length := by
        rw [← hR.len]
        unfold szs
        rw [List.length_map, List.length_range]
      have hp4 : H4 p = some (.lst []) := e4 p _ (e3 p _ (e2 p _ h1))
      have hD4 : H4 D = some (.lst refs) := hDr
      have npD : p ≠ D := fun z => by
        have q := e3 p _ (e2 p _ h1)
        rw [z, hD] at q
        cases q
      have D0 : H D = none := fresh_back ((e1.trans e2).trans e3) hD
      -- for size, count in reversed(sizes)
      refine ⟨.ref D, rfl, D, refs, rfl, SqL.of hD4, for_it (walk_rev (K := K) (a := D) (xs := refs)) (fun i σ' H' => ∃ (y5 y7 y8 : Option V) (acc : List V), σ' = [some (.int k), some (.int f), some (.int l), some (.ref p), some (.int ((f + Sh.tot (cs.drop (cs.length - i)) (2 ^ (cs.length - i)) : Nat) : Int)), y5, some (.ref D), y7, y8] ∧
          Ex H H' ∧ H' D = some (.lst refs) ∧ PrT H' (szs cs) refs ∧ H' p = some (.lst acc) ∧ PrT H' (Sh.sh f (cs.drop (cs.length - i)) (2 ^ (cs.length - i))) acc) ?_ (fun i σ' H' _ ⟨_, _, _, _, _, _, h, _⟩ => SqL.of h) ?_ ?_⟩
      · refine ⟨none, none, none, [], ?_, ex4, hD4, hR, hp4, ?_⟩
        · rw [Nat.sub_zero, List.drop_length]
          rfl
        · rw [Nat.sub_zero, List.drop_length]
          exact .nil
      · intro i x σ' Ha Hb hi hPv hy
        obtain ⟨y5, y7, y8, acc, rfl, exA, hDA, hRA, hpA, hSA⟩ := hPv
        obtain ⟨rfl, hx⟩ := hy
        rw [hrl] at hi hx
        obtain ⟨j, hj, hij⟩ : ∃ j, j < cs.length ∧ cs.length - i = j + 1 := ⟨cs.length - 1 - i, by omega, by omega⟩
        have ej : cs.length - 1 - i = j := by omega
        have ej2 : cs.length - (i + 1) = j := by omega
        rw [ej] at hx
        rw [hij] at hSA
        obtain ⟨pr, hpr, b, rfl, hb⟩ := Paired.at hRA hx
        rw [szs_get hj] at hpr
        have hpe : pr = (2 ^ j, cs.getD j 0) := (Option.some.inj hpr).symm
        subst hpe
        have hc8 := hle j
        have t1 := htot (j + 1)
        have tj : Sh.tot (cs.drop j) (2 ^ j) = Sh.tot (cs.drop (j + 1)) (2 ^ (j + 1)) + 2 ^ j * cs.getD j 0 := by
          rw [drop_cons hj, Nat.pow_succ, Nat.mul_comm (2 ^ j) 2]
          rfl
        have sj : Sh.sh f (cs.drop j) (2 ^ j) = Sh.sh f (cs.drop (j + 1)) (2 ^ (j + 1)) ++ (List.range (cs.getD j 0)).map fun q => (f + Sh.tot (cs.drop (j + 1)) (2 ^ (j + 1)) + 2 ^ j * q, 2 ^ j) := by
          rw [drop_cons hj, Nat.pow_succ, Nat.mul_comm (2 ^ j) 2]
          rfl
        have hacc : acc.length ≤ 10000 := by
          rw [← hSA.len]
          exact Nat.le_trans (Sh.sh_len _ _ _ (Nat.two_pow_pos _)) t1
        rw [hij]
        refine ⟨b, _, rfl, SqT.of hb, rfl, _, _, rfl, _, _, rfl, rfl, ?_⟩
        -- some.extend([..])
        refine ⟨.ref p, rfl, .inl ⟨rfl, acc, SqL.of hpA⟩, .int (cs.getD j 0 : Nat), rfl, (cs.getD j 0 : Nat), rfl, by omega, by omega, fun D2 hD2 => ?_⟩
        refine lc_gen walk_range (fun i H acc2 => PrT H ((List.range i).map fun q => (f + Sh.tot (cs.drop (j + 1)) (2 ^ (j + 1)) + 2 ^ j * q, 2 ^ j)) acc2) (by rw [Int.toNat_natCast]; omega) hD2 (fun i H xs ys acc h r => r.upd h) .nil (fun _ _ => True.intro) ?_ ?_
        · intro q x Hc Hd acc2 hq ex2 y hR2 Qy Qn hy hn
          obtain ⟨rfl, rfl⟩ := y
          have hq2 : q < cs.getD j 0 := by
            rw [Int.toNat_natCast] at hq
            exact hq
          refine ⟨rfl, yes_then ?_⟩
          refine eu_tup (vs := [.int ((f + Sh.tot (cs.drop (j + 1)) (2 ^ (j + 1)) + 2 ^ j * q : Nat) : Int), .int ((2 ^ j : Nat) : Int)])
            (ea_cons (ev_is (ev_op (ev_var rfl) (ev_op (ev_var rfl) (ev_var rfl) (rv_I (.inr ⟨by omega, by omega⟩))) rv_I0) ?_) (ea_cons (ev_var rfl) ea_nil)) (by show 2 ≤ 100000; decide) _ (Ex.refl _) _ fun T H5 hT e5 h5 => ?_
          · show V.int _ = V.int _
            congr 1
            simp only [Int.natCast_add, Int.natCast_mul, Int.zero_add]
          · refine hy _ _ e5 ?_
            rw [List.range_succ, List.map_append]
            exact (hR2.ex e5).snoc h5
        · intro H5 acc2 e5 hD5 hR2
          have hc : ((cs.getD j 0 : Nat) : Int).toNat = cs.getD j 0 := Int.toNat_natCast _
          rw [hc] at hR2
          have hl2 : acc2.length = cs.getD j 0 := by
            rw [← hR2.len, List.length_map, List.length_range]
          have hp5 : H5 p = some (.lst acc) := e5 p _ hpA
          refine ⟨p, D2, acc, acc2, rfl, rfl, hp5, hD5, Nat.le_trans (show acc.length + acc2.length ≤ 20000 by omega) (by decide), ?_⟩
          have p0 : H p = none := hp
          refine s_aug (f := fun i j => i + j) (a := ((f + Sh.tot (cs.drop (j + 1)) (2 ^ (j + 1)) : Nat) : Int)) (b := ((2 ^ j : Nat) : Int) * ((cs.getD j 0 : Nat) : Int)) rfl (ev_op (ev_var rfl) (ev_var rfl) (rv_I (.inr ⟨by omega, by omega⟩))) fun H6 e6 => ?_
          have nDp : D ≠ p := Ne.symm npD
          refine ⟨some (.int (cs.getD j 0 : Nat)), some (.int ((2 ^ j : Nat) : Int)), y8, acc ++ acc2, ?_, (Ex.mut (exA.trans e5) p0).trans e6, ?_, ?_, e6 p _ upd_same, ?_⟩
          · rw [ej2, tj]
            have e9 : ((f + (Sh.tot (cs.drop (j + 1)) (2 ^ (j + 1)) + 2 ^ j * cs.getD j 0) : Nat) : Int) = ((f + Sh.tot (cs.drop (j + 1)) (2 ^ (j + 1)) : Nat) : Int) + ((2 ^ j : Nat) : Int) * ((cs.getD j 0 : Nat) : Int) := by
              simp only [Int.natCast_add, Int.natCast_mul]
              omega
            rw [e9]
            rfl
          · refine e6 D _ ?_
            rw [upd_ne nDp]
            exact e5 D _ hDA
          · exact ((hRA.ex e5).upd hp5).ex e6
          · rw [ej2, sj]
            exact Paired.app (((hSA.ex e5).upd hp5).ex e6) ((hR2.upd hp5).ex e6)
      · intro σ' Hz hPv
        obtain ⟨y5, y7, y8, acc, rfl, exZ, hDZ, hRZ, hpZ, hSZ⟩ := hPv
        rw [hrl, Nat.sub_self] at hSZ
        refine ⟨.ref p, rfl, p, acc, rfl, .inl ⟨SqL.of hpZ, fun q hq => ?_⟩⟩
        refine kk q acc _ (fresh_back exZ hq) (exZ.trans (Ex.new hq)) upd_same ?_
        have e : Sh.shp k f l = Sh.sh f (cs.drop 0) (2 ^ 0) := by
          unfold Sh.shp
          rw [hcs]
          rfl
        rw [e]
        exact hSZ.ex (Ex.new hq)
end
end K10

set_option Elab.async false
set_option linter.all false
set_option maxRecDepth 100000
set_option maxHeartbeats 4000000
namespace Pu
open PySem PySem.Spec PyProof.Rows L2 GxR Evl
/-- a tuple or a list -/
def SqE (K : PySem.W.Frag) (H : Hp) (a : Addr) (xs : List V) : Prop := SqT K H a xs ∨ SqL K H a xs
theorem SqE.ex {K : PySem.W.Frag} {H H' : Hp} {a : Addr} {xs : List V} (q : SqE K H a xs) (e : Ex H H') : SqE K H' a xs := q.elim (fun q => .inl (ex_t e q)) fun q => .inr (ex_l e q)
/-- pairs of numbers, each a tuple or a list -/
def PrIn (K : PySem.W.Frag) (H : Hp) (L : List (Nat × Nat)) (xs : List V) : Prop := Paired (fun (p : Nat × Nat) (v : V) => ∃ b, v = .ref b ∧ SqE K H b [.int (p.1 : Nat), .int (p.2 : Nat)]) L xs
theorem PrIn.ex {K : PySem.W.Frag} {H H' : Hp} {L : List (Nat × Nat)} {xs : List V} (h : PrIn K H L xs) (e : Ex H H') : PrIn K H' L xs := Paired.mapP h fun p v ⟨b, h1, h2⟩ => ⟨b, h1, h2.ex e⟩
theorem PrT.in {K : PySem.W.Frag} {H : Hp} {L : List (Nat × Nat)} {xs : List V} (h : PrT H L xs) : PrIn K H L xs := Paired.mapP h fun p v ⟨b, h1, h2⟩ => ⟨b, h1, .inl (SqT.of h2)⟩
def ShIn (K : PySem.W.Frag) (H : Hp) (L : List (Nat × Nat)) (v : V) : Prop := ∃ a xs, v = .ref a ∧ SqE K H a xs ∧ PrIn K H L xs
theorem ShIn.ex {K : PySem.W.Frag} {H H' : Hp} {L : List (Nat × Nat)} {v : V} (h : ShIn K H L v) (e : Ex H H') : ShIn K H' L v := by
  obtain ⟨a, xs, h1, h2, h3⟩ := h
  exact ⟨a, xs, h1, h2.ex e, h3.ex e⟩
theorem ShIn.of {K : PySem.W.Frag} {H : Hp} {L : List (Nat × Nat)} {p : Addr} {xs : List V} (h : H p = some (.tup xs)) (q : PrT H L xs) : ShIn K H L (.ref p) := ⟨p, xs, rfl, .inl (SqT.of h), q.in⟩
theorem test_then {tt : TT} {te : TE} {σ : L2.St} {H : Hp} {b : Bool} {Qy : VK} {Qn : Hp → Prop} (ht : EvT tt σ H b) (h1 : b = true → ∀ H1, Ex H H1 → te σ H1 Qy) (h2 : b = false → ∀ H1, Ex H H1 → Qn H1) :
    tt σ H fun b H3 => if b = true then te σ H3 Qy else Qn H3 := ht H (Ex.refl H) _ fun H1 e => by
  cases b with
  | true =>
    rw [if_pos rfl]
    exact h1 rfl H1 e
  | false =>
    rw [if_neg Bool.false_ne_true]
    exact h2 rfl H1 e
end Pu
namespace K10
open PySem PySem.Spec PyProof.Rows L2 GxR Pu Evl
theorem scFirstOf : FnScope ["some", "laid"] ["some", "laid"] (defScope sFirstOf) := ⟨rfl, rfl, rfl, by decide +kernel, rfl, by decide +kernel, by decide +kernel⟩
theorem scLetGo : FnScope ["some", "below", "first", "many"] ["some", "below"] (defScope sLetGo) := ⟨rfl, rfl, rfl, by decide +kernel, rfl, by decide +kernel, by decide +kernel⟩
theorem scSpanAt : FnScope ["keep", "first", "laid", "row", "some", "start", "many"] ["keep", "first", "laid", "row"] (defScope sSpanAt) := ⟨rfl, rfl, rfl, by decide +kernel, rfl, by decide +kernel, by decide +kernel⟩
theorem scFirstBehind : FnScope ["keep", "first", "laid", "below"] ["keep", "first", "laid", "below"] (defScope sFirstBehind) := ⟨rfl, rfl, rfl, by decide +kernel, rfl, by decide +kernel, by decide +kernel⟩
/-- what the small defs say, together -/
structure Base (P : Program) (w : World) (K : PySem.W.Frag) (mg : Str → Option Value) (base : Heap) (fNN fNK fSF fNR : Addr) (dNN dNK dSF dNR : FuncData) : Prop where
  nn : FnOk P w K mg base CX0 3 fNN dNN ["value"] (spV pNat)
  nk : FnOk P w K mg base CX0 3 fNK dNK ["keep"] (spV pKeep)
  nr : FnOk P w K mg base CX0 4 fNR dNR ["first", "laid"] (spV pRows)
  sf : FnOk P w K mg base CX0 5 fSF dSF ["keep", "first", "laid"] (spSh pShape)
section
variable {P : Program} {w : World} {K : PySem.W.Frag} {mg : Str → Option Value} {base : Heap}
variable {fInt fNum fSeq fPar fNN fIK fNK fCO fSF fNR fSh fSt fIS fFO fLS fLG fSA fFB : Addr} {dInt dNum dSeq dPar dNN dIK dNK dCO dSF dNR dSh dSt dIS dFO dLS dLG dSA dFB : FuncData}
theorem ok_shape {f : Addr} {fd : FuncData} (F : Fun K "shape" "shape" sShape f fd) (B : Base P w K mg base fNN fNK fSF fNR dNN dNK dSF dNR) (F1 : Fns K mg "need_keep" ["keep"] sNeedKeep fNK dNK) (F2 : Fns K mg "need_rows" ["first", "laid"] sNeedRows fNR dNR)
    (F3 : Fns K mg "shape_from" ["keep", "first", "laid"] sShapeFrom fSF dSF) : FnOk P w K mg base CX0 6 f fd ["keep", "first", "laid"] (spSh pShape) := by
  refine F.ok scShape (fun vs H Q E h => ?_) (fun cdv A outer s H vs Q E hr h => ?_)
  · obtain ⟨L, ⟨k, f, l, rfl, _⟩, _⟩ := h
    rfl
  · obtain ⟨L, ⟨k, f, l, rfl, h2, h8, hfl, hl, rfl⟩, kk⟩ := h
    refine ⟨_, pss_cons (ps_expr (pe_call B.nk (hr.mono (by decide)) (by rfl) F1.mg F1.fn.kp F1.bd .nil pass0 (pa_cons (pv 0) pa_nil)))
      (pss_cons (ps_expr (pe_call B.nr (hr.mono (by decide)) (by rfl) F2.mg F2.fn.kp F2.bd .nil pass0 (pa_cons (pv 1) (pa_cons (pv 2) pa_nil))))
      (pss_one (ps_ret (pe_call B.sf hr (by rfl) F3.mg F3.fn.kp F3.bd .nil pass0 (pa_cons (pv 0) (pa_cons (pv 1) (pa_cons (pv 2) pa_nil))))))), ?_⟩
    refine q_drop (v := .non) (ev_call (ea_cons (ev_var rfl) ea_nil) (spV.use fun H1 _ => ⟨k, rfl, by omega, by omega, rfl⟩)) fun H1 e1 => ?_
    refine q_drop (v := .non) (ev_call (ea_cons (ev_var rfl) (ea_cons (ev_var rfl) ea_nil)) (spV.use fun H1 _ => ⟨f, l, rfl, by omega, by omega, rfl⟩)) fun H2 e2 => ?_
    refine ⟨_, rfl, _, rfl, _, rfl, _, ⟨k, f, l, rfl, h2, h8, hfl, hl, rfl⟩, fun p xs H3 hp e3 h3 h4 => kk p xs H3 (fresh_back (e1.trans e2) hp) ((e1.trans e2).trans e3) h3 h4⟩
def pFirst (K : PySem.W.Frag) : List V → Hp → V → Prop := fun vs H v => ∃ (L : List (Nat × Nat)) (l : Nat) (x : V), vs = [x, .int l] ∧ ShIn K H L x ∧ L.length ≤ 10000 ∧ v = .int (Sh.firstOf L l : Nat)
theorem ok_first_of {f : Addr} {fd : FuncData} (G : Mg mg) (F : Fun K "first_of" "first_of" sFirstOf f fd) : FnOk P w K mg base CX0 1 f fd ["some", "laid"] (spV (pFirst K)) := by
  refine F.ok scFirstOf (fun vs H Q E h => ?_) (fun cdv A outer s H vs Q E hr h => ?_)
  · obtain ⟨v, ⟨L, l, x, rfl, _⟩, _⟩ := h
    rfl
  · obtain ⟨v, ⟨L, l, x, rfl, ⟨a, xs, rfl, hq, hp⟩, hz, rfl⟩, kk⟩ := h
    refine ⟨_, pss_one (ps_ret (pe_ifExp (pt_cmpR op_gt (pe_callB call_len (by rfl) G.len boot_len (pa_cons (pv 0) pa_nil)) pe_int (nomark _)) (pe_ix ix_seq (pe_ix ix_seq (pv 0) pe_int (fun _ _ => rfl)) pe_int (fun _ _ => rfl)) (pv 1))), ?_⟩
    have hl : L.length = xs.length := Paired.length hp
    refine ⟨.ref a, rfl, .ref a, xs.length, rfl, hq.elim (fun q => .inr ⟨xs, q, rfl⟩) (fun q => .inl ⟨xs, q, rfl⟩), (xs.length : Int), 0, rfl, rfl, _, rfl, ?_⟩
    cases hp with
    | nil =>
      refine (ite2 (fun z => ?_) fun _ => ⟨_, rfl, kk H (Ex.refl H)⟩)
      exact absurd z (by simp)
    | @cons p v L xs r t =>
      obtain ⟨b, rfl, hb⟩ := r
      refine (ite2 (fun _ => ?_) fun z => ?_)
      · have i0 : atI (V.ref b :: xs) ((0 : Nat) : Int) = some (V.ref b) := atI_nat rfl
        have i1 : atI [V.int (p.1 : Nat), V.int (p.2 : Nat)] ((0 : Nat) : Int) = some (V.int (p.1 : Nat)) := atI_nat rfl
        have fin : rIx K (V.ref b) (V.int 0) H fun v H' => Q v H' := by
          rcases hb with q | q
          · exact .inr (.inl ⟨b, _, 0, _, rfl, rfl, q, i1, kk H (Ex.refl H)⟩)
          · exact .inl ⟨b, _, 0, _, rfl, rfl, q, i1, kk H (Ex.refl H)⟩
        rcases hq with q | q
        · exact ⟨.ref a, rfl, .inr (.inl ⟨a, _, 0, _, rfl, rfl, q, i0, fin⟩)⟩
        · exact ⟨.ref a, rfl, .inl ⟨a, _, 0, _, rfl, rfl, q, i0, fin⟩⟩
      · exact absurd (decide_eq_true (show (0 : Int) < (((V.ref b :: xs).length : Nat) : Int) by rw [List.length_cons]; omega)) z
def pGo (K : PySem.W.Frag) : List V → Hp → List (Nat × Nat) → Prop := fun vs H R => ∃ (L : List (Nat × Nat)) (b : Nat) (x : V), vs = [x, .int b] ∧ ShIn K H L x ∧ L.length ≤ 10000 ∧ R = Sh.gone b L
theorem gone_snoc (b : Nat) (L : List (Nat × Nat)) (p : Nat × Nat) : Sh.gone b (L ++ [p]) = if b < p.1 + p.2 then Sh.gone b L ++ [p] else Sh.gone b L := by
  unfold Sh.gone
  rw [List.filter_append, List.filter_cons]
  by_cases h : b < p.1 + p.2
  · rw [if_pos h, if_pos (by simpa using h)]
    rfl
  · rw [if_neg h, if_neg (by simpa using h)]
    simp
theorem ok_let_go {f : Addr} {fd : FuncData} (G : Mg mg) (F : Fun K "let_go_shape" "let_go_shape" sLetGo f fd) (B : Base P w K mg base fNN fNK fSF fNR dNN dNK dSF dNR) (F1 : Fns K mg "need_number" ["value"] sNeedNumber fNN dNN) :
    FnOk P w K mg base CX0 4 f fd ["some", "below"] (spSh (pGo K)) := by
  refine F.ok scLetGo (fun vs H Q E h => ?_) (fun cdv A outer s H vs Q E hr h => ?_)
  · obtain ⟨R, ⟨L, b, x, rfl, _⟩, _⟩ := h
    rfl
  · obtain ⟨R, ⟨L, b, x, rfl, ⟨a, xs, rfl, hq, hp⟩, hz, rfl⟩, kk⟩ := h
    refine ⟨_, pss_cons (ps_expr (pe_call B.nn hr (by rfl) F1.mg F1.fn.kp F1.bd .nil pass0 (pa_cons (pv 1) pa_nil)))
      (pss_one (ps_ret (pe_callTy call_tuple_of (by rfl) G.tuple (by decide +kernel) (pa_cons
        (pe_lc (own := [("first", 2), ("many", 3)]) (g := gSeq K 2 (gCons (gName 2) (gCons (gName 3) gNil))) (by rfl) scLetGo.nd (pi_seq (pv 0))
          (blkOk_by (own := [("first", 2), ("many", 3)]) (N := ["some", "below", "first", "many"]) (sc := defScope sLetGo) (by decide +kernel))
          (fun _ _ _ _ _ => pg_seq rfl (pgs_cons (pg_name (i := 2) scLetGo.nd rfl (.inl rfl)) (pgs_cons (pg_name (i := 3) scLetGo.nd rfl (.inl rfl)) pgs_nil)))
          (fun _ _ _ _ _ => pts_one (pt_cmpR op_gt (pe_op op_add (pv 2) (pv 3)) (pv 1) (nomark _)))
          (fun _ _ _ _ _ => pe_tup (pa_cons (pv 2) (pa_cons (pv 3) pa_nil)))) pa_nil)))), ?_⟩
    refine q_drop (v := .non) (ev_call (ea_cons (ev_var rfl) ea_nil) (spV.use fun H1 _ => ⟨b, rfl, by omega, rfl⟩)) fun H1 e1 => ?_
    have hl : L.length = xs.length := Paired.length hp
    refine ⟨_, rfl, a, xs, rfl, hq.ex e1, fun J Gd wk hG D hD => ?_⟩
    refine lc_gen wk (fun i H acc => PrT H (Sh.gone b (L.take i)) acc) (by omega) hD (fun i H xs ys acc h r => r.upd h) .nil hG ?_ ?_
    · intro i x Ha Hb acc hi ex y hR Qy Qn hy hn
      obtain ⟨rfl, hx⟩ := y
      obtain ⟨p, hpL, c, rfl, hc⟩ := Paired.at hp hx
      have tk : L.take (i + 1) = L.take i ++ [p] := by rw [List.take_add_one, hpL]; rfl
      refine ⟨c, _, rfl, (hc.ex e1).ex ex, rfl, _, _, rfl, _, _, rfl, rfl, rfl, ?_⟩
      refine test_then (b := decide ((b : Int) < (p.1 : Int) + (p.2 : Int))) (et_test (ev_op (ev_op (ev_var rfl) (ev_var rfl) rv_I0) (ev_var rfl) rv_I0)) (fun hb H3 e3 => ?_) fun hb H3 e3 => ?_
      · have hlt : b < p.1 + p.2 := by have := of_decide_eq_true hb; omega
        refine eu_tup (vs := [.int (p.1 : Nat), .int (p.2 : Nat)]) (ea_cons (ev_var rfl) (ea_cons (ev_var rfl) ea_nil)) (by show 2 ≤ 100000; decide) _ (Ex.refl _) _ fun T H4 hT e4 h4 => hy _ _ (e3.trans e4) ?_
        rw [tk, gone_snoc, if_pos hlt]
        exact (hR.ex (e3.trans e4)).snoc h4
      · have hlt : ¬ b < p.1 + p.2 := fun z => of_decide_eq_false hb (by omega)
        refine hn H3 e3 ?_
        rw [tk, gone_snoc, if_neg hlt]
        exact hR.ex e3
    · intro H4 acc e4 hD4 hR
      rw [← hl, List.take_length] at hR
      refine ⟨D, acc, rfl, .inl ⟨SqL.of hD4, fun q hq2 => ?_⟩⟩
      have ex4 := e1.trans e4
      exact kk q acc _ (fresh_back ex4 hq2) (ex4.trans (Ex.new hq2)) upd_same (hR.ex (Ex.new hq2))
/-- what is found, or None -/
def OptAt (H : Hp) : Option (Nat × Nat) → V → Prop
  | none, v => v = .non
  | some p, v => ∃ b, v = .ref b ∧ H b = some (.tup [.int (p.1 : Nat), .int (p.2 : Nat)])
theorem OptAt.ex {H H' : Hp} {o : Option (Nat × Nat)} {v : V} (h : OptAt H o v) (e : Ex H H') : OptAt H' o v := by
  cases o with
  | none => exact h
  | some p =>
    obtain ⟨b, h1, h2⟩ := h
    exact ⟨b, h1, e _ _ h2⟩
def hasRow (r : Nat) (p : Nat × Nat) : Bool := decide (p.1 ≤ r) && decide (r < p.1 + p.2)
def spSpan : Sp := fun vs H Q _ => ∃ k f l r : Nat, vs = [.int k, .int f, .int l, .int r] ∧ 2 ≤ k ∧ k ≤ 8 ∧ f ≤ l ∧ l ≤ 10000 ∧ r < l ∧ ∀ v H', Ex H H' → OptAt H' ((Sh.shp k f l).find? (hasRow r)) v → Q v H'
theorem find_take {α : Type} {p : α → Bool} : ∀ {l : List α} {i : Nat} {x : α}, l[i]? = some x → (l.take i).find? p = none → p x = true → l.find? p = some x
  | [], _, _, h, _, _ => by simp at h
  | y :: l, 0, x, h, _, hp => by
    have e : y = x := Option.some.inj h
    subst e
    simp [hp]
  | y :: l, i + 1, x, h, hn, hp => by
    rw [List.take_succ_cons, List.find?_cons] at hn
    cases hy : p y with
    | true =>
      rw [hy] at hn
      cases hn
    | false =>
      rw [hy] at hn
      rw [List.find?_cons, hy]
      exact find_take (i := i) (by simpa using h) hn hp
theorem ok_span_at {f : Addr} {fd : FuncData} (M : L2.Mod K mg base) (G : Mg mg) (F : Fun K "span_at" "span_at" sSpanAt f fd) (F1 : Fns K mg "shape" ["keep", "first", "laid"] sShape fSh dSh) (G1 : FnOk P w K mg base CX0 6 fSh dSh ["keep", "first", "laid"] (spSh pShape))
    (F2 : Fns K mg "is_number" ["value"] sIsNumber fNum dNum) (F3 : Fns K mg "is_integer" ["value"] sIsInteger fInt dInt) :
    FnOk P w K mg base CX0 7 f fd ["keep", "first", "laid", "row"] spSpan := by
  have G2 : FnOk P w K mg base CX0 2 fNum dNum ["value"] (spPure P w base ["value"] pNumber) := (pf_is_number M G F2.fn F3.fn F3.bd F3.mg).ok
  refine F.ok scSpanAt (fun vs H Q E h => ?_) (fun cdv A outer s H vs Q E hr h => ?_)
  · obtain ⟨k, f, l, r, rfl, _⟩ := h
    rfl
  · obtain ⟨k, f, l, r, rfl, h2, h8, hfl, hl, hrl, kk⟩ := h
    refine ⟨_, pss_cons (ps_set (i := 4) scSpanAt.nd rfl (.inl rfl) (pe_call G1 hr (by rfl) F1.mg F1.fn.kp F1.bd .nil pass0 (pa_cons (pv 0) (pa_cons (pv 1) (pa_cons (pv 2) pa_nil)))))
      (pss_cons (ps_if (PW.pt (pw_or (pt_not (pt_val (pe_call G2 (hr.mono (by decide)) (by rfl) F2.mg F2.fn.kp F2.bd .nil pass0 (pa_cons (pv 3) pa_nil)))) (pw_or1 (pt_cmpR op_ge (pv 3) (pv 2) (nomark _))))) pss_never pss_nil)
      (pss_cons (ps_for PassesOwn.never rfl (pi_tup (pv 4)) (pg_tup rfl (pgs_cons (pg_name (i := 5) scSpanAt.nd rfl (.inl rfl)) (pgs_cons (pg_name (i := 6) scSpanAt.nd rfl (.inl rfl)) pgs_nil)))
        (pss_one (ps_if (pt_chain op_le op_lt (pv 5) (pv 3) (pe_op op_add (pv 5) (pv 6))) (pss_one (ps_ret (pe_tup (pa_cons (pv 5) (pa_cons (pv 6) pa_nil))))) pss_nil)))
      (pss_one (ps_ret pe_non)))), ?_⟩
    refine ⟨_, rfl, _, rfl, _, rfl, _, ⟨k, f, l, rfl, h2, h8, hfl, hl, rfl⟩, fun p xs H1 hp e1 h1 h4 => ?_⟩
    have t1 : EvT (tNot (tB (tCall (spPure P w base ["value"] pNumber) [] E0 (tCons (tVar 3) tNil)))) [some (.int k), some (.int f), some (.int l), some (.int r), some (.ref p), none, none] H1 (!true) :=
      et_not (et_B (ev_call (ea_cons (ev_var rfl) ea_nil) (spPure.use rfl fun H1 _ h _ _ => ⟨.int r, "int", rfl, .int r, by rw [show isNum (.int r) = decide ((r : Int) ≥ 0) from rfl, decide_eq_true (by omega)]⟩)))
    have t2 : EvT (tTest (tOp (rI0 fun i j => .bl (decide (j ≤ i))) (tVar 3) (tVar 2))) [some (.int k), some (.int f), some (.int l), some (.int r), some (.ref p), none, none] H1 (decide ((l : Int) ≤ (r : Int))) := et_test (ev_op (ev_var rfl) (ev_var rfl) rv_I0)
    have t3 := et_is (et_or t1 fun _ => t2) (show (!true || decide ((l : Int) ≤ (r : Int))) = false by rw [decide_eq_false (by omega)]; rfl)
    refine q_when t3 (fun z => nomatch z) fun _ H2 e2 => ?_
    have hl2 := h4.len
    refine ⟨_, rfl, p, rfl, ⟨xs, SqT.of (e2 _ _ h1)⟩, for_it (walk_tup (K := K) (a := p) (xs := xs)) (fun i σ' H' => ∃ y5 y6, σ' = [some (.int k), some (.int f), some (.int l), some (.int r), some (.ref p), y5, y6] ∧ Ex H2 H' ∧ ((Sh.shp k f l).take i).find? (hasRow r) = none)
      ⟨none, none, rfl, Ex.refl _, rfl⟩ (fun i σ' H' _ ⟨_, _, _, e, _⟩ => SqT.of (e _ _ (e2 _ _ h1))) ?_ ?_⟩
    · intro i x σ' Ha Hb hi hPv hy
      obtain ⟨y5, y6, rfl, ex, hf⟩ := hPv
      obtain ⟨rfl, hx⟩ := hy
      obtain ⟨q, hq, b, rfl, hb⟩ := Paired.at h4 hx
      refine ⟨b, _, rfl, SqT.of (ex _ _ (e2 _ _ hb)), rfl, _, _, rfl, _, _, rfl, rfl, ?_⟩
      have tst : EvT (tTest (tChain (rI0 fun i j => .bl (decide (i ≤ j))) (rI0 fun i j => .bl (decide (i < j))) (tVar 5) (tVar 3) (tOp (rI0 fun i j => .int (i + j)) (tVar 5) (tVar 6))))
          [some (.int k), some (.int f), some (.int l), some (.int r), some (.ref p), some (.int (q.1 : Nat)), some (.int (q.2 : Nat))] Hb (hasRow r q) := fun H3 e3 Qt qt => by
        refine ⟨_, rfl, _, rfl, (q.1 : Int), (r : Int), rfl, rfl, _, rfl, ?_⟩
        by_cases h1 : (q.1 : Int) ≤ (r : Int)
        · rw [decide_eq_true h1, if_pos rfl]
          refine ⟨_, rfl, _, rfl, (q.1 : Int), (q.2 : Int), rfl, rfl, (r : Int), (q.1 : Int) + (q.2 : Int), rfl, rfl, _, rfl, ?_⟩
          have e : decide ((r : Int) < (q.1 : Int) + (q.2 : Int)) = hasRow r q := by
            unfold hasRow
            rw [decide_eq_true (show q.1 ≤ r by omega), Bool.true_and]
            by_cases h2 : r < q.1 + q.2
            · rw [decide_eq_true h2, decide_eq_true (by omega)]
            · rw [decide_eq_false h2, decide_eq_false (by omega)]
          rw [e]
          exact qt H3 (Ex.refl H3)
        · rw [decide_eq_false h1, if_neg Bool.false_ne_true]
          have e : false = hasRow r q := by
            unfold hasRow
            rw [decide_eq_false (show ¬ q.1 ≤ r by omega)]
            rfl
          refine ⟨_, rfl, ?_⟩
          rw [e]
          exact qt H3 (Ex.refl H3)
      refine s_when tst (fun hb2 H3 e3 => ?_) fun hb2 H3 e3 => ?_
      · refine s_retU (eu_tup (vs := [.int (q.1 : Nat), .int (q.2 : Nat)]) (ea_cons (ev_var rfl) (ea_cons (ev_var rfl) ea_nil)) (by show 2 ≤ 100000; decide)) fun T H4 hT e4 h4' => kk _ _ ((((e1.trans e2).trans ex).trans e3).trans e4) ?_
        rw [find_take hq hf hb2]
        exact ⟨T, rfl, h4'⟩
      · refine ⟨_, _, rfl, ex.trans e3, ?_⟩
        rw [List.take_add_one, hq, List.find?_append, hf]
        simp [hb2]
    · intro σ' Hz hPv
      obtain ⟨y5, y6, rfl, ex, hf⟩ := hPv
      rw [← hl2, List.take_length] at hf
      refine kk .non Hz ((e1.trans e2).trans ex) ?_
      rw [hf]
      rfl
def pBehind : List V → Hp → V → Prop := fun vs H v => ∃ k f l b : Nat, vs = [.int k, .int f, .int l, .int b] ∧ 2 ≤ k ∧ k ≤ 8 ∧ f ≤ l ∧ l ≤ 10000 ∧ v = .int (Sh.firstOf (Sh.gone b (Sh.shp k f l)) l : Nat)
theorem gone_len (b : Nat) (L : List (Nat × Nat)) : (Sh.gone b L).length ≤ L.length := List.length_filter_le _ _
theorem ok_first_behind {f : Addr} {fd : FuncData} (F : Fun K "first_behind" "first_behind" sFirstBehind f fd) (F1 : Fns K mg "shape" ["keep", "first", "laid"] sShape fSh dSh) (G1 : FnOk P w K mg base CX0 6 fSh dSh ["keep", "first", "laid"] (spSh pShape))
    (F2 : Fns K mg "let_go_shape" ["some", "below"] sLetGo fLG dLG) (G2 : FnOk P w K mg base CX0 4 fLG dLG ["some", "below"] (spSh (pGo K))) (F3 : Fns K mg "first_of" ["some", "laid"] sFirstOf fFO dFO) (G3 : FnOk P w K mg base CX0 1 fFO dFO ["some", "laid"] (spV (pFirst K))) :
    FnOk P w K mg base CX0 7 f fd ["keep", "first", "laid", "below"] (spV pBehind) := by
  refine F.ok scFirstBehind (fun vs H Q E h => ?_) (fun cdv A outer s H vs Q E hr h => ?_)
  · obtain ⟨v, ⟨k, f, l, b, rfl, _⟩, _⟩ := h
    rfl
  · obtain ⟨v, ⟨k, f, l, b, rfl, h2, h8, hfl, hl, rfl⟩, kk⟩ := h
    refine ⟨_, pss_one (ps_ret (pe_call G3 (hr.mono (by decide)) (by rfl) F3.mg F3.fn.kp F3.bd .nil pass0 (pa_cons (pe_call G2 (hr.mono (by decide)) (by rfl) F2.mg F2.fn.kp F2.bd .nil pass0 (pa_cons
      (pe_call G1 hr (by rfl) F1.mg F1.fn.kp F1.bd .nil pass0 (pa_cons (pv 0) (pa_cons (pv 1) (pa_cons (pv 2) pa_nil)))) (pa_cons (pv 3) pa_nil))) (pa_cons (pv 2) pa_nil)))), ?_⟩
    have hlen := Sh.shp_len (f := f) (l := l) h2
    refine ⟨_, rfl, _, rfl, _, rfl, _, ⟨k, f, l, rfl, h2, h8, hfl, hl, rfl⟩, fun p xs H1 hp e1 h1 h4 => ?_⟩
    refine ⟨_, rfl, _, ⟨_, b, .ref p, rfl, ShIn.of h1 h4, by omega, rfl⟩, fun q ys H2 hq e2 h5 h6 => ?_⟩
    refine ⟨_, rfl, _, ⟨_, l, .ref q, rfl, ShIn.of h5 h6, Nat.le_trans (gone_len _ _) (by omega), rfl⟩, fun H3 e3 => kk H3 ((e1.trans e2).trans e3)⟩
end
end K10

set_option Elab.async false
set_option linter.all false
set_option maxRecDepth 100000
set_option maxHeartbeats 4000000
namespace Pu
open PySem PySem.Spec PyProof.Rows L2 GxR Evl
/-- all kept but the table at T, which may have grown -/
def ExT (T : Addr) (H H' : Hp) : Prop := TabG H' T ∧ ∀ b o, b ≠ T → H b = some o → H' b = some o
theorem ExT.of_tab {T : Addr} {H H' : Hp} (t : Tabbed T H H') : ExT T H H' := ⟨t.1, fun b o hb e => by rw [t.2 b hb]; exact e⟩
theorem TabG.ex {T : Addr} {H H' : Hp} (t : TabG H T) (e : Ex H H') : TabG H' T := by
  obtain ⟨ps, h, r⟩ := t
  exact ⟨ps, e _ _ h, r⟩
theorem ExT.ex {T : Addr} {H H1 H2 : Hp} (a : ExT T H H1) (e : Ex H1 H2) : ExT T H H2 := ⟨TabG.ex a.1 e, fun b o hb h => e _ _ (a.2 b o hb h)⟩
theorem ExT.ex' {T : Addr} {H H1 H2 : Hp} (e : Ex H H1) (a : ExT T H1 H2) : ExT T H H2 := ⟨a.1, fun b o hb h => a.2 b o hb (e _ _ h)⟩
theorem ExT.refl {T : Addr} {H : Hp} (t : TabG H T) : ExT T H H := ⟨t, fun _ _ _ h => h⟩
theorem ExT.trans {T : Addr} {H H1 H2 : Hp} (a : ExT T H H1) (b : ExT T H1 H2) : ExT T H H2 := ⟨b.1, fun c o hc h => b.2 c o hc (a.2 c o hc h)⟩
theorem ExT.fresh {T : Addr} {H H' : Hp} {p : Addr} (t : TabG H T) (a : ExT T H H') (h : H' p = none) : H p = none := by
  cases e : H p with
  | none => rfl
  | some o =>
    by_cases z : p = T
    · obtain ⟨ps, q, _⟩ := a.1
      rw [z, q] at h
      cases h
    · rw [a.2 p o z e] at h
      cases h
theorem TabG.ne {T a : Addr} {H : Hp} {o : HO} (t : TabG H T) (h : H a = some o) (n : ∀ ps, o ≠ .tbl ps) : a ≠ T := fun z => by
  obtain ⟨ps, q, _⟩ := t
  rw [z, q] at h
  exact n ps (Option.some.inj h).symm
theorem rd_exT {T a : Addr} {H H' : Hp} {u : HO} (t : TabG H T) (e : ExT T H H') (n : ∀ ps, u ≠ .tbl ps) (h : Rd H a u) : Rd H' a u := by
  rcases h with h | ⟨o, h⟩
  · exact .inl (e.2 _ _ (TabG.ne t h n) h)
  · exact .inr ⟨o, e.2 _ _ (TabG.ne t h fun ps z => by cases z) h⟩
theorem SqT.exT {K : PySem.W.Frag} {T a : Addr} {H H' : Hp} {xs : List V} (t : TabG H T) (e : ExT T H H') (q : SqT K H a xs) : SqT K H' a xs := q.imp (rd_exT t e fun ps z => by cases z) id
theorem SqL.exT {K : PySem.W.Frag} {T a : Addr} {H H' : Hp} {xs : List V} (t : TabG H T) (e : ExT T H H') (q : SqL K H a xs) : SqL K H' a xs := q.imp (rd_exT t e fun ps z => by cases z) id
theorem SqE.exT {K : PySem.W.Frag} {T a : Addr} {H H' : Hp} {xs : List V} (t : TabG H T) (e : ExT T H H') (q : SqE K H a xs) : SqE K H' a xs := q.imp (SqT.exT t e) (SqL.exT t e)
theorem PrIn.exT {K : PySem.W.Frag} {T : Addr} {H H' : Hp} {L : List (Nat × Nat)} {xs : List V} (t : TabG H T) (e : ExT T H H') (h : PrIn K H L xs) : PrIn K H' L xs := Paired.mapP h fun p v ⟨b, h1, h2⟩ => ⟨b, h1, h2.exT t e⟩
theorem PrT.exT {T : Addr} {H H' : Hp} {L : List (Nat × Nat)} {xs : List V} (t : TabG H T) (e : ExT T H H') (h : PrT H L xs) : PrT H' L xs := Paired.mapP h fun p v ⟨b, h1, h2⟩ => ⟨b, h1, e.2 _ _ (TabG.ne t h2 fun ps z => by cases z) h2⟩
theorem ShIn.exT {K : PySem.W.Frag} {T : Addr} {H H' : Hp} {L : List (Nat × Nat)} {v : V} (t : TabG H T) (e : ExT T H H') (h : ShIn K H L v) : ShIn K H' L v := by
  obtain ⟨a, xs, h1, h2, h3⟩ := h
  exact ⟨a, xs, h1, h2.exT t e, h3.exT t e⟩
/-- pairs of numbers, each a tuple that is read -/
def PrS (K : PySem.W.Frag) (H : Hp) (L : List (Nat × Nat)) (xs : List V) : Prop := Paired (fun (p : Nat × Nat) (v : V) => ∃ b, v = .ref b ∧ SqT K H b [.int (p.1 : Nat), .int (p.2 : Nat)]) L xs
theorem PrS.ex {K : PySem.W.Frag} {H H' : Hp} {L : List (Nat × Nat)} {xs : List V} (h : PrS K H L xs) (e : Ex H H') : PrS K H' L xs := Paired.mapP h fun p v ⟨b, h1, h2⟩ => ⟨b, h1, ex_t e h2⟩
theorem SqT.upd {K : PySem.W.Frag} {H : Hp} {b D : Addr} {xs ys : List V} {o : HO} (h : SqT K H b xs) (hD : H D = some (.lst ys)) : SqT K (upd H D o) b xs := by
  rcases h with (h | ⟨u, h⟩) | h
  · exact .inl (.inl (by rw [upd_ne (ne_of h hD (by intro z; cases z))]; exact h))
  · exact .inl (.inr ⟨u, by rw [upd_ne (ne_of h hD (by intro z; cases z))]; exact h⟩)
  · exact .inr h
theorem PrS.upd {K : PySem.W.Frag} {H : Hp} {L : List (Nat × Nat)} {xs ys : List V} {D : Addr} {o : HO} (h : PrS K H L xs) (hD : H D = some (.lst ys)) : PrS K (upd H D o) L xs := Paired.mapP h fun p v ⟨b, h1, h2⟩ => ⟨b, h1, SqT.upd h2 hD⟩
theorem PrS.in {K : PySem.W.Frag} {H : Hp} {L : List (Nat × Nat)} {xs : List V} (h : PrS K H L xs) : PrIn K H L xs := Paired.mapP h fun p v ⟨b, h1, h2⟩ => ⟨b, h1, .inl h2⟩
theorem PrT.s {K : PySem.W.Frag} {H : Hp} {L : List (Nat × Nat)} {xs : List V} (h : PrT H L xs) : PrS K H L xs := Paired.mapP h fun p v ⟨b, h1, h2⟩ => ⟨b, h1, SqT.of h2⟩
/-- pairs as data -/
def dPair (p : Nat × Nat) : PyData := .tuple [.int (p.1 : Nat), .int (p.2 : Nat)]
def dShape (L : List (Nat × Nat)) : PyData := .tuple (L.map dPair)
theorem dpPairs {K : PySem.W.Frag} {H : Hp} : ∀ {L : List (Nat × Nat)} {xs : List V}, PrS K H L xs → DpAll K H xs (L.map dPair)
  | _, _, .nil => .nil
  | _, _, .cons ⟨b, e, h⟩ t => by
    subst e
    exact .cons (.tup h (.cons (.int _) (.cons (.int _) .nil))) (dpPairs t)
theorem dpShape {K : PySem.W.Frag} {H : Hp} {a : Addr} {L : List (Nat × Nat)} {xs : List V} (h : SqT K H a xs) (q : PrS K H L xs) : Dp K H (.ref a) (dShape L) := .tup h (dpPairs q)
theorem pairs_lay : ∀ L : List (Nat × Nat), PyData.canLayAll0 (L.map dPair) = true
  | [] => rfl
  | p :: L => by
    show ((PyData.canLay0 (.int (p.1 : Nat)) && (PyData.canLay0 (.int (p.2 : Nat)) && PyData.canLayAll0 [])) && PyData.canLayAll0 (L.map dPair)) = true
    rw [pairs_lay L]
    rfl
theorem pairs_depth : ∀ L : List (Nat × Nat), PyData.depthAll (L.map dPair) ≤ 1
  | [] => Nat.zero_le _
  | p :: L => by
    show max (PyData.depth (dPair p)) (PyData.depthAll (L.map dPair)) ≤ 1
    exact Nat.max_le.mpr ⟨Nat.le_refl 1, pairs_depth L⟩
theorem shape_shaped (L : List (Nat × Nat)) : SeqAt.shaped (dShape L) = true := by
  have h1 : PyData.canLay0 (dShape L) = true := pairs_lay L
  have h2 : PyData.depth (dShape L) ≤ 64 := by
    show PyData.depthAll (L.map dPair) + 1 ≤ 64
    have := pairs_depth L
    omega
  unfold SeqAt.shaped
  rw [h1, decide_eq_true h2]
  rfl
theorem pairs_eqv : ∀ L : List (Nat × Nat), PyData.eqvAll (L.map dPair) (L.map dPair) = true
  | [] => rfl
  | p :: L => by
    show (PyData.eqv (dPair p) (dPair p) && PyData.eqvAll (L.map dPair) (L.map dPair)) = true
    rw [pairs_eqv L]
    simp [dPair, PyData.eqv, PyData.eqvAll]
theorem shape_eqv (L : List (Nat × Nat)) : PyData.eqv (dShape L) (dShape L) = true := by
  show PyData.eqv (.tuple _) (.tuple _) = true
  rw [PyData.eqv]
  exact pairs_eqv L
/-- tuple(x) -/
def rTupleOf (K : PySem.W.Frag) (xs : List V) (H : Hp) (Q : VK) : Prop := ∃ p ys, xs = [.ref p] ∧ ((SqL K H p ys ∧ ∀ l, H l = none → Q (.ref l) (upd H l (.tup ys))) ∨ (SqT K H p ys ∧ Q (.ref p) H))
/-- a tracked tuple or list at a heap that keeps all but the table -/
theorem seq_at {P : Program} {w : World} {K : PySem.W.Frag} {H1 : Hp} {g : Heap} {T b : Addr} {xs : List V} (t : TabG H1 T) (ok : ∀ c ho, c ≠ T → H1 c = some ho → ObjOk P w H1 g c ho) (kin : K.In g) (q : SqE K H1 b xs) : ∃ (bb : Bool) (its : List Value), Vals xs its ∧ SeqG g bb b its := by
  have rd : ∀ {u : HO}, Rd H1 b u → (∀ ps, u ≠ .tbl ps) → ObjOk P w H1 g b u := fun {u} h n => by
    rcases h with h | ⟨o, h⟩
    · exact ok b _ (TabG.ne t h n) h
    · exact (ok b _ (TabG.ne t h fun ps z => by cases z) h).2
  rcases q with (q | ⟨o, its, n, hk, hc, hs, hz, r⟩) | (q | ⟨o, its, n, hk, hc, hd, hs, hz, r⟩)
  · obtain ⟨z, its, r, p⟩ := rd q fun ps z => by cases z
    exact ⟨true, its, r, by rw [← r.length]; exact z, p⟩
  · exact ⟨true, its.toList, r, by simpa using hz, o, kin b o hk, hc, n, by simpa using hs⟩
  · obtain ⟨z, its, n, r, e⟩ := rd q fun ps z => by cases z
    exact ⟨false, its, r, by rw [← r.length]; exact z, _, n, e, rfl, rfl, rfl⟩
  · exact ⟨false, its.toList, r, by simpa using hz, o, n, kin b o hk, hc, hd, by simpa using hs⟩
theorem GenS.of {env : Env} {sc : Scope} {x : Str} (h1 : sc.kind = .function) (h2 : sc.isCoroutine = false) (h3 : ∀ y ∈ sc.names, y.2 ≠ .cell) (h4 : sc.names.lookup (".0" : Str) = some NameKind.local) (h5 : sc.names.lookup x = some .local) (h6 : ∀ y ∈ sc.names, y.2 ≠ .free) :
    GenS env sc x := ⟨h1, h2, h3, h4, h5, fun y hy e => absurd e (h6 y hy)⟩
theorem PrS.snoc {K : PySem.W.Frag} {H : Hp} {L : List (Nat × Nat)} {xs : List V} {p : Nat × Nat} {b : Addr} (h : PrS K H L xs) (e : SqT K H b [.int (p.1 : Nat), .int (p.2 : Nat)]) : PrS K H (L ++ [p]) (xs ++ [.ref b]) := Paired.app h (.cons ⟨b, rfl, e⟩ .nil)
theorem q_ifOrF {t u : TT} {tu tw tz : TS} {D : Ends} {σ : L2.St} {H : Hp} (h1 : EvT t σ H false) (h2 : ∀ H1, Ex H H1 → u σ H1 fun b H2 => if b = true then tu { D with nx := tz D } σ H2 else tw { D with nx := tz D } σ H2) :
    tSeq (tIfS (tOr t u) tu tw) tz D σ H := h1 H (Ex.refl H) _ fun H1 e => by
  rw [if_neg (by decide)]
  exact h2 H1 e
end Pu
namespace K10
open PySem PySem.Spec PyProof.Rows L2 GxR Pu Evl
theorem scIsShape : FnScope ["keep", "laid", "value", "some", "first", "stretch"] ["keep", "laid", "value"] (defScope sIsShape) := ⟨rfl, rfl, rfl, by decide +kernel, rfl, by decide +kernel, by decide +kernel⟩
theorem scLayShape : FnScope ["laid", "some", "keep"] ["laid", "some", "keep"] (defScope sLayShape) := ⟨rfl, rfl, rfl, by decide +kernel, rfl, by decide +kernel, by decide +kernel⟩
def spIsShape (K : PySem.W.Frag) (T : Addr) : Sp := fun vs H Q _ => ∃ (k f l : Nat) (x : V), vs = [.int k, .int l, x] ∧ 2 ≤ k ∧ k ≤ 8 ∧ f ≤ l ∧ l ≤ 10000 ∧ ShIn K H (Sh.shp k f l) x ∧ TabG H T ∧ ∀ H', ExT T H H' → Q (.bl true) H'
def spLay (K : PySem.W.Frag) (T : Addr) : Sp := fun vs H Q _ => ∃ (k f l : Nat) (x : V), vs = [.int l, x, .int k] ∧ 2 ≤ k ∧ k ≤ 8 ∧ f ≤ l ∧ l < 10000 ∧ ShIn K H (Sh.shp k f l) x ∧ TabG H T ∧
  ∀ p xs H', H p = none → ExT T H H' → H' p = some (.tup xs) → PrT H' (Sh.shp k f (l + 1)) xs → Q (.ref p) H'
section
variable {P : Program} {w : World} {K : PySem.W.Frag} {mg : Str → Option Value} {base : Heap} {T c : Addr}
variable {fInt fNum fSeq fPar fNN fIK fNK fCO fSF fNR fSh fSt fIS fFO fLS fLG fSA fFB : Addr} {dInt dNum dSeq dPar dNN dIK dNK dCO dSF dNR dSh dSt dIS dFO dLS dLG dSA dFB : FuncData}
theorem all_true (n : Nat) : (List.range n).all (fun _ => true) = true := by simp
theorem ok_is_shape {f : Addr} {fd : FuncData} (M : L2.Mod K mg base) (G : Mg mg) (F : FunC K "is_shape" "is_shape" sIsShape f fd c) (TB : TabB base mg c T) (B : Base P w K mg base fNN fNK fSF fNR dNN dNK dSF dNR)
    (F1 : Fns K mg "need_keep" ["keep"] sNeedKeep fNK dNK) (F2 : Fns K mg "need_number" ["value"] sNeedNumber fNN dNN) (F3 : Fns K mg "shape_from" ["keep", "first", "laid"] sShapeFrom fSF dSF)
    (F4 : Fns K mg "is_sequence" ["value"] sIsSequence fSeq dSeq) (F5 : Fns K mg "is_stretch" ["value"] sIsStretch fSt dSt) (G5 : PF P w K mg base 3 fSt dSt ["value"] pStretch) (F6 : Fns K mg "first_of" ["some", "laid"] sFirstOf fFO dFO) (G6 : FnOk P w K mg base CX0 1 fFO dFO ["some", "laid"] (spV (pFirst K))) :
    FnOk P w K mg base CX0 6 f fd ["keep", "laid", "value"] (spIsShape K T) := by
  have G4 : FnOk P w K mg base CX0 1 fSeq dSeq ["value"] (spPure P w base ["value"] pSequence) := (pf_is_sequence M G F4.fn).ok
  refine F.ok scIsShape (fun vs H Q E h => ?_) (fun A outer s H vs Q E hr h => ?_)
  · obtain ⟨k, f, l, x, rfl, _⟩ := h
    rfl
  · obtain ⟨k, f, l, x, rfl, h2, h8, hfl, hl, ⟨a, xs, rfl, hq, hp⟩, ht, kk⟩ := h
    have hu : A.units + 3 + 64 < cLine := hr.units
    refine ⟨_, pss_cons (ps_expr (pe_call B.nk (hr.mono (by decide)) (by rfl) F1.mg F1.fn.kp F1.bd .nil pass0 (pa_cons (pv 0) pa_nil)))
      (pss_cons (ps_expr (pe_call B.nn (hr.mono (by decide)) (by rfl) F2.mg F2.fn.kp F2.bd .nil pass0 (pa_cons (pv 1) pa_nil)))
      (pss_cons (ps_if (PW.pt (pw_or (pt_not (pt_val (pe_call G4 (hr.mono (by decide)) (by rfl) F4.mg F4.fn.kp F4.bd .nil pass0 (pa_cons (pv 2) pa_nil))))
          (pw_or1 (pt_not (pt_val (pe_allQ (k := 3) (T := T) (c := c) (hr.mono (by decide)) (by rfl) G.all TB rfl (GenS.of rfl rfl (by decide +kernel) rfl rfl (by decide +kernel)) (pv 2)))))))
        (pss_one (ps_ret pe_bl)) pss_nil)
      (pss_cons (ps_set (i := 3) scIsShape.nd rfl (.inl rfl) (pe_callTy call_tuple_of (by rfl) G.tuple (by decide +kernel) (pa_cons
          (pe_lc (own := [("stretch", 5)]) (te := tCB (rTupleOf K) (tCons (tVar 5) tNil)) (by rfl) scIsShape.nd (pi_seq (pv 2))
            (blkOk_by (own := [("stretch", 5)]) (N := ["keep", "laid", "value", "some", "first", "stretch"]) (sc := defScope sIsShape) (by decide +kernel))
            (fun _ _ _ _ _ => pg_name (i := 5) scIsShape.nd rfl (.inl rfl)) (fun _ _ _ _ _ => pts_nil)
            (fun _ _ _ _ _ => pe_callTy (T := "tuple") call_tuple_of (by rfl) G.tuple (by decide +kernel) (pa_cons (pv 5) pa_nil))) pa_nil)))
      (pss_cons (ps_set (i := 4) scIsShape.nd rfl (.inl rfl) (pe_call G6 (hr.mono (by decide)) (by rfl) F6.mg F6.fn.kp F6.bd .nil pass0 (pa_cons (pv 3) (pa_cons (pv 1) pa_nil))))
      (pss_one (ps_ret (pe_and (pe_cmpR op_le (pv 4) (pv 1) (nomark _)) (pe_one (pe_cmpR (op_eqD hu) (pv 3) (pe_call B.sf hr (by rfl) F3.mg F3.fn.kp F3.bd .nil pass0 (pa_cons (pv 0) (pa_cons (pv 4) (pa_cons (pv 1) pa_nil)))) (nomark _)))))))))), ?_⟩
    have hlen : (Sh.shp k f l).length = xs.length := Paired.length hp
    have hzl : (Sh.shp k f l).length ≤ 10000 := Nat.le_trans (Sh.shp_len h2) (by omega)
    refine q_drop (v := .non) (ev_call (ea_cons (ev_var rfl) ea_nil) (spV.use fun H1 _ => ⟨k, rfl, by omega, by omega, rfl⟩)) fun H1 e1 => ?_
    refine q_drop (v := .non) (ev_call (ea_cons (ev_var rfl) ea_nil) (spV.use fun H1 _ => ⟨l, rfl, by omega, rfl⟩)) fun H2 e2 => ?_
    have hq2 : SqE K H2 a xs := (hq.ex e1).ex e2
    have hp2 : PrIn K H2 (Sh.shp k f l) xs := (hp.ex e1).ex e2
    have ht2 : TabG H2 T := TabG.ex (TabG.ex ht e1) e2
    have t1 : EvT (tNot (tB (tCall (spPure P w base ["value"] pSequence) [] E0 (tCons (tVar 2) tNil)))) (start ["keep", "laid", "value", "some", "first", "stretch"] [.int k, .int l, .ref a]) H2 (!true) :=
      et_not (et_B (ev_call (ea_cons (ev_var rfl) ea_nil) (spPure.use rfl fun H1 e h ok bx => by
        obtain ⟨bb, its, rv, sq⟩ := TyG.of_sq ok (M.kin.keeps bx) (hq2.ex e)
        exact ⟨_, _, rfl, TyG.seq sq, by cases bb <;> rfl⟩)))
    refine q_ifOrF t1 fun H3 e3 => ?_
    have hq3 := hq2.ex e3
    have hp3 := hp2.ex e3
    have ht3 := TabG.ex ht2 e3
    refine ⟨.ref a, rfl, a, xs, fun _ => true, rfl, hq3, ht3, ?_, fun H4 t4 => ?_⟩
    · intro B' cenv g i v u hrm hs hg hb hx hn hi rv ok
      obtain ⟨m, ns, hm⟩ := hn
      have FR : FrP K mg base B' cenv g := ⟨M, hx, by rw [hs], hg, hb, hrm.hd⟩
      obtain ⟨p, hp1, b, rfl, hb1⟩ := Paired.at hp3 hi
      obtain ⟨bb, its, rvs, sq⟩ := seq_at ht3 ok (M.kin.keeps hx) hb1
      obtain ⟨u0, u1, rfl, r0, r1⟩ := vals2 rvs
      have st : StG g (.ref b) (isNum (.int (p.1 : Nat)) && isNum (.int (p.2 : Nat))) := .two sq r0 r1 (.int _) (.int _)
      have st2 : StG g (.ref b) true := by
        have z : (isNum (.int (p.1 : Nat)) && isNum (.int (p.2 : Nat))) = true := by
          rw [show isNum (.int (p.1 : Nat)) = decide (((p.1 : Nat) : Int) ≥ 0) from rfl, show isNum (.int (p.2 : Nat)) = decide (((p.2 : Nat) : Int) ≥ 0) from rfl, decide_eq_true (by omega), decide_eq_true (by omega)]
          rfl
        rw [← z]
        exact st
      have val : ∀ {pos : Pos}, EV P w B' cenv g (.Name "stretch" pos) (.ref b) := ev_loc FR (by show cenv.scope.names.lookup _ = _; rw [hs]; rfl) ns hm rv
      exact ev_pf FR G5 hrm (by show cenv.scope.names.lookup _ = _; rw [hs]; rfl) F5.mg F5.fn.kp F5.bd (ea_cons val ea_nil) rfl fun h e => ⟨_, _, rfl, st2.mono e, rfl⟩
    refine ⟨_, rfl, ite2 (fun z => absurd z (by rw [all_true]; decide)) fun _ => ?_⟩
    have x34 : ExT T H3 H4 := ExT.of_tab t4
    have hq4 := hq3.exT ht3 x34
    have hp4 := hp3.exT ht3 x34
    have x4 : ExT T H H4 := ExT.ex' ((e1.trans e2).trans e3) x34
    refine ⟨.ref a, rfl, a, xs, rfl, hq4, fun J Gd wk hG D hD => ?_⟩
    refine lc_gen wk (fun i H acc => PrS K H ((Sh.shp k f l).take i) acc) (by omega) hD (fun i H xs ys acc h r => PrS.upd r h) .nil hG ?_ ?_
    · intro i x Ha Hb acc hi ex y hR Qy Qn hy hn
      obtain ⟨rfl, hx⟩ := y
      obtain ⟨p, hpL, b, rfl, hb⟩ := Paired.at hp4 hx
      have tk : (Sh.shp k f l).take (i + 1) = (Sh.shp k f l).take i ++ [p] := by rw [List.take_add_one, hpL]; rfl
      refine ⟨rfl, yes_then ⟨.ref b, rfl, b, [.int (p.1 : Nat), .int (p.2 : Nat)], rfl, ?_⟩⟩
      rcases hb with q | q
      · refine .inr ⟨ex_t ex q, hy _ _ (Ex.refl _) ?_⟩
        rw [tk]
        exact hR.snoc (ex_t ex q)
      · refine .inl ⟨ex_l ex q, fun r hr => hy _ _ (Ex.new hr) ?_⟩
        rw [tk]
        exact (hR.ex (Ex.new hr)).snoc (SqT.of upd_same)
    · intro H5 acc e5 hD5 hR
      rw [hlen.symm, List.take_length] at hR
      refine ⟨D, acc, rfl, .inl ⟨SqL.of hD5, fun q hq => ?_⟩⟩
      have hR6 := hR.ex (Ex.new (p := q) (o := .tup acc) hq)
      have sq6 : SqT K (upd H5 q (.tup acc)) q acc := SqT.of upd_same
      have x6 : ExT T H (upd H5 q (.tup acc)) := x4.ex (e5.trans (Ex.new hq))
      refine ⟨_, rfl, _, rfl, .int (f : Nat), ⟨Sh.shp k f l, l, .ref q, rfl, ⟨q, acc, rfl, .inl sq6, hR6.in⟩, hzl, by rw [Sh.firstOf_sh h2 hfl]⟩, fun H6 e6 => ?_⟩
      refine ⟨.int (f : Nat), rfl, .int (l : Nat), rfl, f, l, rfl, rfl, decide ((f : Int) ≤ (l : Int)), rfl, ite2 (fun _ => ?_) fun z => absurd (decide_eq_true (by omega)) z⟩
      refine ⟨.ref q, rfl, _, rfl, _, rfl, _, rfl, Sh.shp k f l, ⟨k, f, l, rfl, h2, h8, hfl, hl, rfl⟩, fun p ys H7 hp7 e7 h7 hP => ?_⟩
      refine ⟨dShape (Sh.shp k f l), dShape (Sh.shp k f l), dpShape (ex_t (e6.trans e7) sq6) (hR6.ex (e6.trans e7)), dpShape (SqT.of h7) hP.s, shape_shaped _, shape_shaped _, ?_⟩
      rw [shape_eqv]
      exact kk H7 (x6.ex (e6.trans e7))
theorem ok_lay_shape {f : Addr} {fd : FuncData} (F : Fun K "lay_shape" "lay_shape" sLayShape f fd) (B : Base P w K mg base fNN fNK fSF fNR dNN dNK dSF dNR) (F0 : Fns K mg "is_shape" ["keep", "laid", "value"] sIsShape fIS dIS)
    (G0 : FnOk P w K mg base CX0 6 fIS dIS ["keep", "laid", "value"] (spIsShape K T)) (F3 : Fns K mg "shape_from" ["keep", "first", "laid"] sShapeFrom fSF dSF) (F6 : Fns K mg "first_of" ["some", "laid"] sFirstOf fFO dFO) (G6 : FnOk P w K mg base CX0 1 fFO dFO ["some", "laid"] (spV (pFirst K))) :
    FnOk P w K mg base CX0 7 f fd ["laid", "some", "keep"] (spLay K T) := by
  refine F.ok scLayShape (fun vs H Q E h => ?_) (fun cdv A outer s H vs Q E hr h => ?_)
  · obtain ⟨k, f, l, x, rfl, _⟩ := h
    rfl
  · obtain ⟨k, f, l, x, rfl, h2, h8, hfl, hl, hs, ht, kk⟩ := h
    refine ⟨_, pss_cons (ps_if (pt_not (pt_val (pe_call G0 hr (by rfl) F0.mg F0.fn.kp F0.bd .nil pass0 (pa_cons (pv 2) (pa_cons (pv 0) (pa_cons (pv 1) pa_nil)))))) pss_never pss_nil)
      (pss_one (ps_ret (pe_call B.sf (hr.mono (by decide)) (by rfl) F3.mg F3.fn.kp F3.bd .nil pass0 (pa_cons (pv 2) (pa_cons
        (pe_call G6 (hr.mono (by decide)) (by rfl) F6.mg F6.fn.kp F6.bd .nil pass0 (pa_cons (pv 1) (pa_cons (pv 0) pa_nil))) (pa_cons (pe_op op_add (pv 0) pe_int) pa_nil)))))), ?_⟩
    refine ⟨_, rfl, _, rfl, _, rfl, k, f, l, x, rfl, h2, h8, hfl, by omega, hs, ht, fun H1 e1 => ?_⟩
    refine ⟨_, rfl, ite2 (fun z => nomatch z) fun _ => ?_⟩
    have hs1 := hs.exT ht e1
    have hzl : (Sh.shp k f l).length ≤ 10000 := Nat.le_trans (Sh.shp_len h2) (by omega)
    refine ⟨_, rfl, _, rfl, _, rfl, .int (f : Nat), ⟨Sh.shp k f l, l, x, rfl, hs1, hzl, by rw [Sh.firstOf_sh h2 hfl]⟩, fun H2 e2 => ?_⟩
    refine ⟨_, rfl, l, 1, rfl, rfl, Sh.shp k f (l + 1), ⟨k, f, l + 1, rfl, h2, h8, by omega, by omega, rfl⟩, fun p ys H3 hp e3 h3 hP => ?_⟩
    exact kk p ys H3 (ExT.fresh ht e1 (fresh_back e2 hp)) (e1.ex (e2.trans e3)) h3 hP
end
end K10

set_option Elab.async false
set_option linter.all false
set_option maxRecDepth 100000
set_option maxHeartbeats 4000000
namespace Pu
open PySem PySem.Spec PyProof.Rows L2 GxR Evl
theorem rc_abs {i : Int} {H : Hp} : RC (fun xs H Q => ∃ i, xs = [V.int i] ∧ Q (.int (if i < 0 then -i else i)) H) [.int i] H (.int (if i < 0 then -i else i)) := fun H1 _ Q q => ⟨i, rfl, q H1 (Ex.refl H1)⟩
theorem rc_int {i : Int} {H : Hp} : RC (fun xs H Q => (∃ i, xs = [V.int i] ∧ Q (.int i) H) ∨ ∃ k, xs = [.bl k] ∧ Q (.int (if k then 1 else 0)) H) [.int i] H (.int i) := fun H1 _ Q q => .inl ⟨i, rfl, q H1 (Ex.refl H1)⟩
theorem rc_lenL {K : PySem.W.Frag} {H : Hp} {a : Addr} {xs : List V} (h : SqL K H a xs) : RC (fun ys H Q => ∃ x n, ys = [x] ∧ LenV K x H n ∧ Q (.int n) H) [.ref a] H (.int (xs.length : Int)) := fun H1 e Q q => ⟨_, _, rfl, .inl ⟨xs, ex_l e h, rfl⟩, q H1 (Ex.refl H1)⟩
def BoxAt (H : Hp) (p : Addr) : Prop := ∃ g s : Int, H p = some (.lst [.int g, .int s]) ∧ 0 ≤ g ∧ 0 ≤ s
theorem BoxAt.ex {H H' : Hp} {p : Addr} (h : BoxAt H p) (e : Ex H H') : BoxAt H' p := by
  obtain ⟨g, s, h1, h2⟩ := h
  exact ⟨g, s, e _ _ h1, h2⟩
def ExB (p : Addr) (H H' : Hp) : Prop := BoxAt H' p ∧ ∀ b o, b ≠ p → H b = some o → H' b = some o
def spBox (K : PySem.W.Frag) (ns : List Int) : Sp := fun vs H Q _ => ∃ (a : Addr) (k : Nat), vs = [.ref a, .int k] ∧ SqL K H a (ns.map V.int) ∧ ns.length ≤ 100 ∧ k ≤ 1000 ∧ ∀ p H', H p = none → Ex H H' → BoxAt H' p → Q (.ref p) H'
def spTake : Sp := fun vs H Q _ => ∃ (p : Addr) (m : Nat), vs = [.ref p, .int m] ∧ 1 ≤ m ∧ m ≤ 100000 ∧ BoxAt H p ∧ ∀ (d : Nat) H', d < m → ExB p H H' → Q (.int d) H'
def spPick : Sp := fun vs H Q _ => ∃ (p q : Addr) (ys : List V), vs = [.ref p, .ref q] ∧ BoxAt H p ∧ H q = some (.lst ys) ∧ q ≠ p ∧ 1 ≤ ys.length ∧ ys.length ≤ 1000 ∧ ∀ v H', v ∈ ys → ExB p H H' → Q v H'
theorem ExB.of {p : Addr} {H H2 H4 : Hp} {g s : Int} (e : Ex H H2) (e4 : Ex (upd H2 p (.lst [.int g, .int s])) H4) (hg : 0 ≤ g) (hs : 0 ≤ s) : ExB p H H4 :=
  ⟨⟨g, s, e4 _ _ upd_same, hg, hs⟩, fun b o hb h => e4 _ _ (by rw [upd_ne hb]; exact e _ _ h)⟩
theorem mod_nat (g : Int) {m : Nat} (h : 1 ≤ m) : ∃ d : Nat, g % (m : Int) = d ∧ d < m := by
  have h0 : 0 ≤ g % (m : Int) := Int.emod_nonneg _ (by omega)
  have h1 : g % (m : Int) < m := Int.emod_lt_of_pos _ (by omega)
  exact ⟨(g % (m : Int)).toNat, by omega, by omega⟩
theorem q_ifSet {t t' : TT} {te te' : TE} {tz : TS} {D : Ends} {σ : L2.St} {H : Hp} {b b' : Bool} {i : Nat} {c0 : Int} (Pc : Int → Prop) (h : EvT t σ H b) (h1 : b = true → ∃ c, Pc c ∧ Ev te σ H (.int c)) (h' : b = false → EvT t' σ H b') (h2 : b = false → b' = true → ∃ c, Pc c ∧ Ev te' σ H (.int c)) (h3 : Pc c0 ∧ σ.set i (some (.int c0)) = σ)
    (k : ∀ c H1, Pc c → Ex H H1 → tz D (σ.set i (some (.int c))) H1) : tSeq (tIfS t (tAsg te (gName i)) (tIfS t' (tAsg te' (gName i)) tNext)) tz D σ H := by
  refine s_if (D := { D with nx := tz D }) h (fun z H1 e1 => ?_) (fun z H1 e1 => ?_)
  · obtain ⟨c, hc, v⟩ := h1 z
    exact v H1 e1 _ fun H2 e2 => k c H2 hc (e1.trans e2)
  · refine h' z H1 e1 _ fun H2 e2 => ?_
    refine ite2 (fun y => ?_) fun _ => ?_
    · obtain ⟨c, hc, v⟩ := h2 z y
      exact v H2 (e1.trans e2) _ fun H3 e3 => k c H3 hc ((e1.trans e2).trans e3)
    · have q := k c0 H2 h3.1 (e1.trans e2)
      rw [h3.2] at q
      exact q
theorem lt_log {m : Nat} (h : m ≤ 100000) : (m : Int).natAbs.log2 < 9000 := by
  have z : m < 2 ^ 20 := Nat.lt_of_le_of_lt h (by decide)
  have y := PySem.Flt.log2_lt_of (by decide) (show (m : Int).natAbs < 2 ^ 20 by rw [Int.natAbs_natCast]; exact z)
  omega
theorem ev_int1 {ta : TE} {σ : L2.St} {H : Hp} {i : Int} (h : Ev ta σ H (.int i)) : Ev (tCB (fun xs H Q => (∃ i, xs = [V.int i] ∧ Q (.int i) H) ∨ ∃ k, xs = [.bl k] ∧ Q (.int (if k then 1 else 0)) H) (tCons ta tNil)) σ H (.int i) := ev_cb (Evl.ea_cons h Evl.ea_nil) rc_int
theorem ev_lenL {K : PySem.W.Frag} {ta : TE} {σ : L2.St} {H : Hp} {a : Addr} {xs : List V} (h : Ev ta σ H (.ref a)) (q : SqL K H a xs) : Ev (tCB (fun ys H Q => ∃ x n, ys = [x] ∧ LenV K x H n ∧ Q (.int n) H) (tCons ta tNil)) σ H (.int (xs.length : Int)) := ev_cb (Evl.ea_cons h Evl.ea_nil) (rc_lenL q)
end Pu
namespace K10
open PySem PySem.Spec PyProof.Rows L2 GxR Pu Evl
theorem scBox : FnScope ["_law_script", "_law_k", "_law_cell", "_law_great"] ["_law_script", "_law_k"] (defScope sBox) := ⟨rfl, rfl, rfl, by decide +kernel, rfl, by decide +kernel, by decide +kernel⟩
theorem scTake : FnScope ["_law_box_here", "_law_many", "_law_digit", "_law_raw"] ["_law_box_here", "_law_many"] (defScope sTake) := ⟨rfl, rfl, rfl, by decide +kernel, rfl, by decide +kernel, by decide +kernel⟩
theorem scPick : FnScope ["_law_box_here", "_law_some"] ["_law_box_here", "_law_some"] (defScope sPick) := ⟨rfl, rfl, rfl, by decide +kernel, rfl, by decide +kernel, by decide +kernel⟩
section
variable {P : Program} {w : World} {K : PySem.W.Frag} {mg : Str → Option Value} {base : Heap}
variable {fBox fTake fPick : Addr} {dBox dTake dPick : FuncData}
theorem atI_map {ns : List Int} {j : Nat} (h : j < ns.length) : atI (ns.map V.int) (j : Int) = some (V.int (ns.getD j 0)) := by
  refine atI_nat ?_
  rw [List.getElem?_map, List.getElem?_eq_getElem h, List.getD_eq_getElem?_getD, List.getElem?_eq_getElem h]
  rfl
theorem ok_box {ns : List Int} {f : Addr} {fd : FuncData} (G : Mg mg) (F : Fun K "_law_box" "_law_box" sBox f fd) : FnOk P w K mg base CX0 1 f fd ["_law_script", "_law_k"] (spBox K ns) := by
  refine F.ok scBox (fun vs H Q E h => ?_) (fun cdv A outer s H vs Q E hr h => ?_)
  · obtain ⟨a, k, rfl, _⟩ := h
    rfl
  · obtain ⟨a, k, rfl, hs, hn, hk, kk⟩ := h
    refine ⟨_, pss_cons (ps_set (i := 2) scBox.nd rfl (.inl rfl) (pe_op op_add (pe_op op_mul pe_int (pv 1)) pe_int))
      (pss_cons (ps_if (pt_cmpR op_lt (pv 1) (pe_callB call_len (by rfl) G.len boot_len (pa_cons (pv 0) pa_nil)) (nomark _))
        (pss_one (ps_set (i := 2) scBox.nd rfl (.inl rfl) (pe_callB call_abs (by rfl) G.abs boot_abs (pa_cons (pe_callTy (T := "int") call_int1 (by rfl) G.int (by decide +kernel) (pa_cons (pe_ix ix_list (pv 0) (pv 1) (fun _ _ => rfl)) pa_nil)) pa_nil))))
        (pss_one (ps_if (pt_cmpR op_gt (pe_callB call_len (by rfl) G.len boot_len (pa_cons (pv 0) pa_nil)) pe_int (nomark _))
          (pss_one (ps_set (i := 2) scBox.nd rfl (.inl rfl) (pe_op op_add (pv 2) (pe_op op_mul (pe_op op_mod (pe_callTy (T := "int") call_int1 (by rfl) G.int (by decide +kernel) (pa_cons
            (pe_callB call_abs (by rfl) G.abs boot_abs (pa_cons (pe_callTy (T := "int") call_int1 (by rfl) G.int (by decide +kernel) (pa_cons (pe_ix ix_list (pv 0)
              (pe_op op_mod (pe_callTy (T := "int") call_int1 (by rfl) G.int (by decide +kernel) (pa_cons (pv 1) pa_nil)) (pe_callB call_len (by rfl) G.len boot_len (pa_cons (pv 0) pa_nil))) (fun _ _ => rfl)) pa_nil)) pa_nil)) pa_nil)) pe_int) pe_int))))
          pss_nil)))
      (pss_cons (ps_set (i := 3) scBox.nd rfl (.inl rfl) (pe_ifExp (pt_cmpR op_ge (pv 2) (pe_op op_pow pe_int pe_int) (nomark _)) (pv 2) pe_int))
      (pss_one (ps_ret (pe_lst (pa_cons (pv 3) (pa_cons (pe_op op_add (pe_op op_mod (pe_callTy (T := "int") call_int1 (by rfl) G.int (by decide +kernel) (pa_cons
        (pe_op op_add (pe_op op_mul (pe_op op_mod (pe_callTy (T := "int") call_int1 (by rfl) G.int (by decide +kernel) (pa_cons (pv 2) pa_nil)) pe_int) pe_int) (pe_op op_mul pe_int (pv 1))) pa_nil)) pe_int) pe_int) pa_nil))))))), ?_⟩
    have c64 : ∀ j : Int, 0 ≤ j → j < 2 ^ 64 → ∀ i : Int, CMul i j := fun j a b i => .inr ⟨by omega, b⟩
    have d64 : ∀ j : Int, 0 ≤ j → j < 2 ^ 64 → ∀ i : Int, CMul j i := fun j a b i => .inl ⟨by omega, b⟩
    have ml : (ns.map V.int).length = ns.length := by simp
    refine q_asg (v := .int (7561 * (k : Int) + 1171)) (ev_op (ev_op ev_c (ev_var rfl) (rv_I (d64 _ (by decide) (by decide) _))) ev_c rv_I0) fun H1 e1 => ?_
    have hs1 := ex_l e1 hs
    refine q_ifSet (i := 2) (c0 := 7561 * (k : Int) + 1171) (fun c => 0 ≤ c) (et_test (ev_op (ev_var rfl) (ev_lenL (ev_var rfl) hs1) rv_I0)) (fun z => ?_) (fun _ => et_test (ev_op (ev_lenL (ev_var rfl) hs1) ev_c rv_I0)) (fun z y => ?_) ⟨by omega, rfl⟩ fun c H2 hc e2 => ?_
    · have hk2 : k < ns.length := by have := of_decide_eq_true z; omega
      refine ⟨_, ?_, ev_cb (ea_cons (ev_int1 (ev_op (ev_var rfl) (ev_var rfl) (rv_ixL hs1 (atI_map hk2)))) ea_nil) rc_abs⟩
      split <;> omega
    · have hn0 : 0 < ns.length := by have := of_decide_eq_true y; omega
      obtain ⟨j, hj, hjn⟩ := mod_nat (k : Int) (m := ns.length) hn0
      have jx : Ev (tOp (rI (fun _ j => 0 < j) fun i j => .int (i % j)) (tCB (fun xs H Q => (∃ i, xs = [V.int i] ∧ Q (.int i) H) ∨ ∃ k, xs = [.bl k] ∧ Q (.int (if k then 1 else 0)) H) (tCons (tVar 1) tNil)) (tCB (fun ys H Q => ∃ x n, ys = [x] ∧ LenV K x H n ∧ Q (.int n) H) (tCons (tVar 0) tNil))) (List.set (start ["_law_script", "_law_k", "_law_cell", "_law_great"] [V.ref a, V.int k]) 2 (some (V.int (7561 * (k : Int) + 1171)))) H1 (.int (j : Int)) :=
        ev_is (ev_op (ev_int1 (ev_var rfl)) (ev_lenL (ev_var rfl) hs1) (rv_I (by omega))) (by rw [ml, hj])
      obtain ⟨x, hx⟩ : ∃ x : Int, (if ns.getD j 0 < 0 then -ns.getD j 0 else ns.getD j 0) = x := ⟨_, rfl⟩
      have x0 := Int.emod_nonneg x (show (2147483587 : Int) ≠ 0 by decide)
      refine ⟨7561 * (k : Int) + 1171 + x % 2147483587 * 50461, by omega, ?_⟩
      refine ev_op (ev_var rfl) (ev_op (ev_op (ev_int1 (ev_is (ev_cb (ea_cons (ev_int1 (ev_op (ev_var rfl) jx (rv_ixL hs1 (atI_map hjn)))) ea_nil) rc_abs) (by rw [hx]))) ev_c (rv_I (by decide))) ev_c (rv_I (c64 _ (by decide) (by decide) _))) rv_I0
    · have pw : CPow 10 18 := ⟨by decide, by decide, by decide⟩
      obtain ⟨g, hg, hg0⟩ : ∃ g : Int, (if 10 ^ 18 ≤ c then c else 0) = g ∧ 0 ≤ g := ⟨_, rfl, by split <;> omega⟩
      refine q_asg (v := .int g) (ev_if (et_test (ev_op (ev_var rfl) (ev_op ev_c ev_c (rv_I pw)) rv_I0)) (fun z => ev_is (ev_var rfl) ?_) (fun z => ev_is ev_c ?_)) fun H3 e3 => ?_
      · rw [← hg, if_pos (show (10 : Int) ^ 18 ≤ c from of_decide_eq_true z)]
      · rw [← hg, if_neg (show ¬ (10 : Int) ^ 18 ≤ c from of_decide_eq_false z)]
      · have y0 := Int.emod_nonneg (c % 2147483587 * 69761 + 1171 * (k : Int)) (show (2147483587 : Int) ≠ 0 by decide)
        refine s_retL (xs := [.int g, .int ((c % 2147483587 * 69761 + 1171 * (k : Int)) % 2147483587 + 1)]) (el_lst (ea_cons (ev_var rfl) (ea_cons (ev_op (ev_op (ev_int1 (ev_op (ev_op (ev_op (ev_int1 (ev_var rfl)) ev_c (rv_I (by decide))) ev_c (rv_I (c64 _ (by decide) (by decide) _)))
          (ev_op ev_c (ev_var rfl) (rv_I (d64 _ (by decide) (by decide) _))) rv_I0)) ev_c (rv_I (by decide))) ev_c rv_I0) ea_nil)) (by show 2 ≤ 100000; decide)) fun p H4 hp e4 h4 => ?_
        exact kk p H4 (fresh_back ((e1.trans e2).trans e3) hp) (((e1.trans e2).trans e3).trans e4) ⟨g, _, h4, hg0, by omega⟩
theorem ok_take {f : Addr} {fd : FuncData} (G : Mg mg) (F : Fun K "_law_take" "_law_take" sTake f fd) : FnOk P w K mg base CX0 1 f fd ["_law_box_here", "_law_many"] spTake := by
  refine F.ok scTake (fun vs H Q E h => ?_) (fun cdv A outer s H vs Q E hr h => ?_)
  · obtain ⟨p, m, rfl, _⟩ := h
    rfl
  · obtain ⟨p, m, rfl, h1, h9, hb, kk⟩ := h
    refine ⟨_, pss_cons (ps_if (pt_cmpR op_gt (pe_ix ix_list (pv 0) pe_int (fun _ _ => rfl)) pe_int (nomark _))
        (pss_cons (ps_set (i := 2) scTake.nd rfl (.inl rfl) (pe_op op_mod (pe_callTy (T := "int") call_int1 (by rfl) G.int (by decide +kernel) (pa_cons (pe_ix ix_list (pv 0) pe_int (fun _ _ => rfl)) pa_nil)) (pv 1)))
        (pss_cons (ps_asg (pe_op op_fdivW (pe_ix ix_list (pv 0) pe_int (fun _ _ => rfl)) (pv 1)) (pg_sub (pv 0) pe_int set_list (fun _ => rfl)))
        (pss_one (ps_ret (pv 2)))))
        pss_nil)
      (pss_cons (ps_set (i := 3) scTake.nd rfl (.inl rfl) (pe_op op_mod (pe_callTy (T := "int") call_int1 (by rfl) G.int (by decide +kernel) (pa_cons (pe_op op_add (pe_op op_mul (pe_ix ix_list (pv 0) pe_int (fun _ _ => rfl)) pe_int) pe_int) pa_nil)) pe_int))
      (pss_cons (ps_asg (pe_op op_add (pe_op op_mod (pe_callTy (T := "int") call_int1 (by rfl) G.int (by decide +kernel) (pa_cons (pe_op op_add (pe_op op_mul (pv 3) pe_int) pe_int) pa_nil)) pe_int) pe_int) (pg_sub (pv 0) pe_int set_list (fun _ => rfl)))
      (pss_one (ps_ret (pe_op op_mod (pe_callTy (T := "int") call_int1 (by rfl) G.int (by decide +kernel) (pa_cons (pe_op op_fdiv (pe_op op_add (pe_op op_mul (pv 3) pe_int) (pe_ix ix_list (pv 0) pe_int (fun _ _ => rfl))) pe_int) pa_nil)) (pv 1)))))), ?_⟩
    obtain ⟨g, s', hH, hg, hs⟩ := hb
    have m0 : (0 : Int) < (m : Int) := by omega
    refine q_when (b := decide (0 < g)) (et_test (ev_op (ev_op (ev_var rfl) ev_c (rv_ixL (SqL.of hH) rfl)) ev_c rv_I0)) (fun hgt H1 e1 => ?_) (fun _ H1 e1 => ?_)
    · obtain ⟨d, hd, hdm⟩ := mod_nat g h1
      refine q_asg (v := .int (d : Int)) (ev_is (ev_op (ev_int1 (ev_op (ev_var rfl) ev_c (rv_ixL (SqL.of (e1 _ _ hH)) rfl))) (ev_var rfl) (rv_I m0)) (by rw [hd])) fun H2 e2 => ?_
      have h2 := (e1.trans e2) _ _ hH
      refine q_setL (j := 0) (v := .int (g / (m : Int))) h2 (ev_op (ev_op (ev_var rfl) ev_c (rv_ixL (SqL.of h2) rfl)) (ev_var rfl) (rv_I ⟨m0, ?_⟩)) (ev_var rfl) ev_c (by simp) fun H3 e3 => ?_
      · exact lt_log h9
      · exact s_ret (ev_var rfl) fun H4 e4 => kk d H4 hdm (ExB.of ((e1.trans e2).trans e3) e4 (Int.ediv_nonneg hg (by omega)) hs)
    · have h1' := e1 _ _ hH
      have c64 : ∀ j : Int, 0 ≤ j → j < 2 ^ 64 → ∀ i : Int, CMul i j := fun j a b i => .inr ⟨by omega, b⟩
      obtain ⟨r, hr⟩ : ∃ r : Int, (s' * 40692 + 79) % 2147483399 = r := ⟨_, rfl⟩
      refine q_asg (v := .int r) (ev_is (ev_op (ev_int1 (ev_op (ev_op (ev_op (ev_var rfl) ev_c (rv_ixL (SqL.of h1') rfl)) ev_c (rv_I (c64 _ (by decide) (by decide) _))) ev_c rv_I0)) ev_c (rv_I (by decide))) (by rw [hr])) fun H2 e2 => ?_
      have h2 := e2 _ _ h1'
      obtain ⟨t, ht⟩ : ∃ t : Int, (r * 39373 + 31) % 2147483587 + 1 = t := ⟨_, rfl⟩
      have t0 : 0 ≤ t := by
        have := Int.emod_nonneg (r * 39373 + 31) (show (2147483587 : Int) ≠ 0 by decide)
        omega
      refine q_setL (j := 1) (v := .int t) h2 (ev_is (ev_op (ev_op (ev_int1 (ev_op (ev_op (ev_var rfl) ev_c (rv_I (c64 _ (by decide) (by decide) _))) ev_c rv_I0)) ev_c (rv_I (by decide))) ev_c rv_I0) (by rw [ht])) (ev_var rfl) ev_c (by simp) fun H3 e3 => ?_
      have h4 : (upd H3 p (.lst ([V.int g, .int s'].set 1 (.int t)))) p = some (.lst [.int g, .int t]) := upd_same
      obtain ⟨d, hd, hdm⟩ := mod_nat ((r * 2147483629 + t) / 8167) h1
      refine s_ret (v := .int (d : Int)) (ev_is (ev_op (ev_int1 (ev_op (ev_op (ev_op (ev_var rfl) ev_c (rv_I (c64 _ (by decide) (by decide) _))) (ev_op (ev_var rfl) ev_c (rv_ixL (SqL.of h4) rfl)) rv_I0) ev_c (rv_I ?_))) (ev_var rfl) (rv_I m0)) (by rw [hd])) fun H4 e4 => kk d H4 hdm (ExB.of ((e1.trans e2).trans e3) e4 hg t0)
      exact ⟨by decide, by decide⟩
theorem ok_pick {f : Addr} {fd : FuncData} (G : Mg mg) (F : Fun K "_law_pick" "_law_pick" sPick f fd) (F1 : Fns K mg "_law_take" ["_law_box_here", "_law_many"] sTake fTake dTake) : FnOk P w K mg base CX0 2 f fd ["_law_box_here", "_law_some"] spPick := by
  have G1 : FnOk P w K mg base CX0 1 fTake dTake ["_law_box_here", "_law_many"] spTake := ok_take G F1.fn
  refine F.ok scPick (fun vs H Q E h => ?_) (fun cdv A outer s H vs Q E hr h => ?_)
  · obtain ⟨p, q, ys, rfl, _⟩ := h
    rfl
  · obtain ⟨p, q, ys, rfl, hb, hq, hne, hl, hz, kk⟩ := h
    refine ⟨_, pss_one (ps_ret (pe_ix ix_list (pv 1) (pe_call G1 hr (by rfl) F1.mg F1.fn.kp F1.bd .nil pass0 (pa_cons (pv 0) (pa_cons (pe_callB call_len (by rfl) G.len boot_len (pa_cons (pv 1) pa_nil)) pa_nil))) (fun _ _ => rfl))), ?_⟩
    refine ⟨.ref q, rfl, .ref p, rfl, .ref q, rfl, .ref q, ys.length, rfl, .inl ⟨ys, SqL.of hq, rfl⟩, p, ys.length, rfl, hl, by omega, hb, fun d H' hd e => ?_⟩
    refine ⟨q, ys, d, ys[d], rfl, rfl, SqL.of (e.2 _ _ hne hq), atI_nat (List.getElem?_eq_getElem hd), kk _ H' (List.getElem_mem hd) e⟩
end
end K10

set_option Elab.async false
set_option linter.all false
set_option maxRecDepth 100000
set_option maxHeartbeats 4000000
namespace Pu
open PySem PySem.Spec PyProof.Rows L2 GxR Evl
/-- list(x) -/
def rListOf (K : PySem.W.Frag) (xs : List V) (H : Hp) (Q : VK) : Prop := ∃ p ys, xs = [.ref p] ∧ (SqL K H p ys ∨ SqT K H p ys) ∧ ∀ l, H l = none → Q (.ref l) (upd H l (.lst ys))
/-- a statement told by what holds ahead of it and behind it -/
def Tr (X : Cx) (st : Stmt) (A B : L2.St → Hp → Prop) : Prop := ∃ t, PS X st t ∧ ∀ D σ H, A σ H → (∀ σ' H', B σ' H' → D.nx σ' H') → t D σ H
def Trs (X : Cx) (l : List Stmt) (A B : L2.St → Hp → Prop) : Prop := ∃ t, PSs X l t ∧ ∀ D σ H, A σ H → (∀ σ' H', B σ' H' → D.nx σ' H') → t D σ H
theorem Trs.cons {X : Cx} {st : Stmt} {l : List Stmt} {A B C : L2.St → Hp → Prop} (h : Tr X st A B) (k : Trs X l B C) : Trs X (st :: l) A C := by
  obtain ⟨t, h1, h2⟩ := h
  obtain ⟨u, k1, k2⟩ := k
  exact ⟨_, pss_cons h1 k1, fun D σ H a q => h2 { D with nx := u D } σ H a fun σ' H' b => k2 D σ' H' b q⟩
theorem Trs.one {X : Cx} {st : Stmt} {A B : L2.St → Hp → Prop} (h : Tr X st A B) : Trs X [st] A B := by
  obtain ⟨t, h1, h2⟩ := h
  exact ⟨_, pss_one h1, h2⟩
theorem Trs.pre {X : Cx} {l : List Stmt} {A A' B : L2.St → Hp → Prop} (h : Trs X l A B) (e : ∀ σ H, A' σ H → A σ H) : Trs X l A' B := by
  obtain ⟨t, h1, h2⟩ := h
  exact ⟨t, h1, fun D σ H a q => h2 D σ H (e σ H a) q⟩
/-- slots -/
theorem sl_ne {σ : L2.St} {i j : Nat} {v : Option V} {x : V} (h : σ[j]? = some (some x)) (n : i ≠ j) : (σ.set i v)[j]? = some (some x) := by rw [List.getElem?_set_ne n]; exact h
theorem sl_eq {σ : L2.St} {i : Nat} {v : V} (h : i < σ.length) : (σ.set i (some v))[i]? = some (some v) := List.getElem?_set_self h
/-- the arguments by their names, put in the told order -/
def perm {α : Type} (is : List Nat) (l : List α) : List α := if l.length = is.length then is.filterMap (fun i => l[i]?) else []
theorem filt_rel {zs : List V} {ws : List Value} (h : Vals zs ws) : ∀ is : List Nat, Vals (is.filterMap fun i => zs[i]?) (is.filterMap fun i => ws[i]?)
  | [] => .nil
  | i :: is => by
    rw [List.filterMap_cons, List.filterMap_cons]
    cases e : zs[i]? with
    | none =>
      have e2 : ws[i]? = none := by
        rw [List.getElem?_eq_none_iff] at e ⊢
        rw [← h.length]
        exact e
      rw [e2]
      exact filt_rel h is
    | some z =>
      obtain ⟨u, hu, r⟩ := h.get e
      rw [hu]
      exact .cons r (filt_rel h is)
theorem perm_rel {is : List Nat} {zs : List V} {ws : List Value} (h : Vals zs ws) : Vals (perm is zs) (perm is ws) := by
  unfold perm
  rw [h.length]
  split
  · exact filt_rel h is
  · exact .nil
theorem kwOk {K : PySem.W.Frag} {fd : FuncData} {ps ks : List Str} {is : List Nat} (h : ∀ ws : List Value, ws.length = is.length → bindArgs fd ⟨[], ks.zip ws⟩ = pure (ps.zip (perm is ws))) (hn : 0 < ps.length) : KwOk K fd ps ks (perm is) (perm is) := by
  refine ⟨fun s ws _ hl => ?_, perm_rel⟩
  refine .of_eq (h ws ?_)
  unfold perm at hl
  split at hl
  · assumption
  · rw [List.length_nil] at hl
    omega
/-- the script stays what it is as long as only p and T change -/
def Scr (K : PySem.W.Frag) (T p a : Addr) (ns : List Int) (H : Hp) : Prop := ∀ H', (∀ b o, b ≠ p → b ≠ T → H b = some o → H' b = some o) → SqL K H' a (ns.map V.int)
structure Hs (K : PySem.W.Frag) (T a : Addr) (ns : List Int) (p : Addr) (H : Hp) : Prop where
  tab : TabG H T
  box : BoxAt H p
  scr : Scr K T p a ns H
/-- a step that changes but the box and the table -/
structure Stp (T p : Addr) (H H' : Hp) : Prop where
  tab : TabG H' T
  box : BoxAt H' p
  kp : ∀ b o, b ≠ p → b ≠ T → H b = some o → H' b = some o
variable {K : PySem.W.Frag} {T a p : Addr} {ns : List Int} {H H' H2 : Hp}
theorem BoxAt.ne (h : BoxAt H p) (t : TabG H T) : p ≠ T := by
  obtain ⟨g, s, h1, _⟩ := h
  exact TabG.ne t h1 fun ps z => by cases z
theorem Hs.ex (h : Hs K T a ns p H) (e : Ex H H') : Stp T p H H' := ⟨TabG.ex h.tab e, h.box.ex e, fun b o _ _ q => e b o q⟩
theorem Hs.exT (h : Hs K T a ns p H) (e : ExT T H H') : Stp T p H H' := by
  refine ⟨e.1, ?_, fun b o _ n q => e.2 b o n q⟩
  obtain ⟨g, s, h1, h2⟩ := h.box
  exact ⟨g, s, e.2 _ _ (h.box.ne h.tab) h1, h2⟩
theorem Hs.exB (h : Hs K T a ns p H) (e : ExB p H H') : Stp T p H H' := by
  refine ⟨?_, e.1, fun b o n _ q => e.2 b o n q⟩
  obtain ⟨ps, h1, h2⟩ := h.tab
  exact ⟨ps, e.2 _ _ (fun z => h.box.ne h.tab z.symm) h1, h2⟩
theorem Hs.step (h : Hs K T a ns p H) (s : Stp T p H H') : Hs K T a ns p H' := ⟨s.tab, s.box, fun H'' q => h.scr H'' fun b o n m e => q b o n m (s.kp b o n m e)⟩
theorem Stp.trans (s : Stp T p H H') (u : Stp T p H' H2) : Stp T p H H2 := ⟨u.tab, u.box, fun b o n m e => u.kp b o n m (s.kp b o n m e)⟩
theorem Hs.scrL (h : Hs K T a ns p H) : SqL K H a (ns.map V.int) := h.scr H fun _ _ _ _ e => e
theorem Hs.ofNew (t : TabG H T) (s : SqL K H a (ns.map V.int)) (n : H p = none) (e : Ex H H') (b : BoxAt H' p) : Hs K T a ns p H' := by
  refine ⟨TabG.ex t e, b, fun H'' q => ?_⟩
  refine s.imp (fun s => ?_) id
  rcases s with s | ⟨o, s⟩
  · exact .inl (q _ _ (fun z => by rw [z, n] at s; cases s) (TabG.ne t s fun ps z => by cases z) (e _ _ s))
  · exact .inr ⟨o, q _ _ (fun z => by rw [z, n] at s; cases s) (TabG.ne t s fun ps z => by cases z) (e _ _ s)⟩
theorem Hs.renew {p' : Addr} (h : Hs K T a ns p H) (n : H p' = none) (e : Ex H H') (b : BoxAt H' p') : Hs K T a ns p' H' := Hs.ofNew h.tab h.scrL n e b
theorem Stp.tup (h : Hs K T a ns p H) (s : Stp T p H H') {b : Addr} {xs : List V} (e : H b = some (.tup xs)) : H' b = some (.tup xs) := by
  obtain ⟨g, s', h1, _⟩ := h.box
  exact s.kp _ _ (fun z => by rw [z, h1] at e; cases e) (TabG.ne h.tab e fun ps z => by cases z) e
theorem Stp.prT (h : Hs K T a ns p H) (s : Stp T p H H') {L : List (Nat × Nat)} {xs : List V} (q : PrT H L xs) : PrT H' L xs := Paired.mapP q fun _ _ ⟨b, h1, h2⟩ => ⟨b, h1, s.tup h h2⟩
theorem Stp.lst (h : Hs K T a ns p H) (s : Stp T p H H') {b : Addr} {xs : List V} (n : b ≠ p) (e : H b = some (.lst xs)) : H' b = some (.lst xs) := s.kp _ _ n (TabG.ne h.tab e fun ps z => by cases z) e
theorem Hs.fresh (h : Hs K T a ns p H) (s : Stp T p H H') {b : Addr} (e : H' b = none) : H b = none := by
  cases z : H b with
  | none => rfl
  | some o =>
    obtain ⟨g, s', h1, _⟩ := s.box
    obtain ⟨ps, h2, _⟩ := s.tab
    by_cases q : b = p
    · rw [q, h1] at e; cases e
    · by_cases r : b = T
      · rw [r, h2] at e; cases e
      · rw [s.kp b o q r z] at e; cases e
end Pu

set_option Elab.async false
set_option linter.all false
set_option maxRecDepth 100000
set_option maxHeartbeats 4000000
namespace K10
open PySem PySem.Spec PyProof.Rows L2 GxR Pu Evl
abbrev lawN : List Str := ["_law_script", "_law_box_here", "_law_keep", "_law_some", "_law_laid", "_law_k", "_law_turn", "_law_first", "_law_below", "_law_due", "_law_after", "_law_handed", "_law_sizes", "_law_counts", "_law_many", "_law_row", "_law_told", "_law_one", "_law_size", "_law_place", "_law_at"]
theorem scLaw : FnScope lawN ["_law_script"] (defScope sLaw) := ⟨rfl, rfl, rfl, by decide +kernel, rfl, by decide +kernel, by decide +kernel⟩
def bodyOf : Stmt → List Stmt
  | .For _ _ b _ _ => b
  | .If _ b _ _ => b
  | _ => []
def lawS (i : Nat) : Stmt := (defBody sLaw).getD i (.Pass ⟨0, 0, 0, 0⟩)
def forS (i : Nat) : Stmt := (bodyOf (lawS 3)).getD i (.Pass ⟨0, 0, 0, 0⟩)
abbrev LX (P : Program) (w : World) (K : PySem.W.Frag) (mg : Str → Option Value) (base : Heap) (fa : Addr) (cdv : Value) (s0 : Shared) (H0 : Hp) : Cx := (cxOf CX0 P w K mg base lawN "law" (defScope sLaw) fa cdv callerA [] s0 H0 E0).nox
structure Cal0 (P : Program) (w : World) (K : PySem.W.Frag) (mg : Str → Option Value) (base : Heap) (x : Str) (ps : List Str) (st : Stmt) (k : Nat) (sp : Sp) (f : Addr) (fd : FuncData) : Prop where
  ns : Fns K mg x ps st f fd
  ok : FnOk P w K mg base CX0 k f fd ps sp
/-- a step of the law, told by the turn i -/
def Ti (X : Cx) (st : Stmt) (A B : Nat → L2.St → Hp → Prop) : Prop := ∃ t, PS X st t ∧ ∀ i D σ H, A i σ H → (∀ σ' H', B i σ' H' → D.nx σ' H') → t D σ H
def Tis (X : Cx) (l : List Stmt) (A B : Nat → L2.St → Hp → Prop) : Prop := ∃ t, PSs X l t ∧ ∀ i D σ H, A i σ H → (∀ σ' H', B i σ' H' → D.nx σ' H') → t D σ H
theorem Tis.cons {X : Cx} {st : Stmt} {l : List Stmt} {A B C : Nat → L2.St → Hp → Prop} (h : Ti X st A B) (k : Tis X l B C) : Tis X (st :: l) A C := by
  obtain ⟨t, h1, h2⟩ := h
  obtain ⟨u, k1, k2⟩ := k
  exact ⟨_, pss_cons h1 k1, fun i D σ H a q => h2 i { D with nx := u D } σ H a fun σ' H' b => k2 i D σ' H' b q⟩
theorem Tis.one {X : Cx} {st : Stmt} {A B : Nat → L2.St → Hp → Prop} (h : Ti X st A B) : Tis X [st] A B := by
  obtain ⟨t, h1, h2⟩ := h
  exact ⟨_, pss_one h1, h2⟩
/-- the law's slots: script, box, keep, shape, how many are laid -/
structure Ctx (K : PySem.W.Frag) (T a : Addr) (ns : List Int) (k l f : Nat) (p q : Addr) (xs : List V) (σ : L2.St) (H : Hp) : Prop where
  len : σ.length = 21
  v0 : σ[0]? = some (some (.ref a))
  v1 : σ[1]? = some (some (.ref p))
  v2 : σ[2]? = some (some (.int k))
  v3 : σ[3]? = some (some (.ref q))
  v4 : σ[4]? = some (some (.int l))
  k2 : 2 ≤ k
  k8 : k ≤ 8
  fl : f ≤ l
  hs : Hs K T a ns p H
  hq : H q = some (.tup xs)
  pr : PrT H (Sh.shp k f l) xs
section
variable {P : Program} {w : World} {K : PySem.W.Frag} {mg : Str → Option Value} {base : Heap} {T a fa : Addr} {ns : List Int} {cdv : Value} {s0 : Shared} {H0 : Hp} {k l f : Nat} {p q : Addr} {xs : List V} {σ : L2.St} {H H' : Hp}
variable {fBox fTake fPick fCO fSh fIS fFO fLS fLG fSA fFB : Addr} {dBox dTake dPick dCO dSh dIS dFO dLS dLG dSA dFB : FuncData}
theorem Ctx.step (c : Ctx K T a ns k l f p q xs σ H) (s : Stp T p H H') : Ctx K T a ns k l f p q xs σ H' := ⟨c.len, c.v0, c.v1, c.v2, c.v3, c.v4, c.k2, c.k8, c.fl, c.hs.step s, s.tup c.hs c.hq, s.prT c.hs c.pr⟩
theorem Ctx.ex (c : Ctx K T a ns k l f p q xs σ H) (e : Ex H H') : Ctx K T a ns k l f p q xs σ H' := c.step (c.hs.ex e)
theorem Ctx.set (c : Ctx K T a ns k l f p q xs σ H) {i : Nat} {v : Option V} (h : 5 ≤ i) : Ctx K T a ns k l f p q xs (σ.set i v) H :=
  ⟨by rw [List.length_set]; exact c.len, sl_ne c.v0 (by omega), sl_ne c.v1 (by omega), sl_ne c.v2 (by omega), sl_ne c.v3 (by omega), sl_ne c.v4 (by omega), c.k2, c.k8, c.fl, c.hs, c.hq, c.pr⟩
theorem Ctx.shin (c : Ctx K T a ns k l f p q xs σ H) : ShIn K H (Sh.shp k f l) (.ref q) := ShIn.of c.hq c.pr
theorem Ctx.hl (c : Ctx K T a ns k l f p q xs σ H) : (Sh.shp k f l).length ≤ l := Nat.le_trans (Sh.shp_len c.k2) (Nat.sub_le _ _)
theorem Ctx.hx (c : Ctx K T a ns k l f p q xs σ H) : (Sh.shp k f l).length = xs.length := Paired.length c.pr
/-- a turn's start -/
def B0 (K : PySem.W.Frag) (T a : Addr) (ns : List Int) (i : Nat) (σ : L2.St) (H : Hp) : Prop := ∃ k l f p q xs, Ctx K T a ns k l f p q xs σ H ∧ l ≤ 5 * i ∧ i < 60 ∧ σ[5]? = some (some (.int ((i + 1 : Nat) : Int)))
def B1 (K : PySem.W.Frag) (T a : Addr) (ns : List Int) (i : Nat) (σ : L2.St) (H : Hp) : Prop := ∃ k l f p q xs, Ctx K T a ns k l f p q xs σ H ∧ l ≤ 5 * i ∧ i < 60
def B2 (K : PySem.W.Frag) (T a : Addr) (ns : List Int) (i : Nat) (σ : L2.St) (H : Hp) : Prop := ∃ k l f p q xs, Ctx K T a ns k l f p q xs σ H ∧ 1 ≤ l ∧ l ≤ 300 ∧ l ≤ 5 * i + 5 ∧ i < 60
theorem ti_box (hr : Room 8 (LX P w K mg base fa cdv s0 H0).A) (C : Cal0 P w K mg base "_law_box" ["_law_script", "_law_k"] sBox 1 (spBox K ns) fBox dBox) (hn : ns.length ≤ 100) : Ti (LX P w K mg base fa cdv s0 H0) (forS 0) (B0 K T a ns) (B1 K T a ns) := by
  refine ⟨_, ps_set (i := 1) scLaw.nd rfl (.inl rfl) (pe_call C.ok (hr.mono (by decide)) (by rfl) C.ns.mg C.ns.fn.kp C.ns.bd .nil pass0 (pa_cons (pv 0) (pa_cons (pv 5) pa_nil))), fun i D σ H hA k => ?_⟩
  obtain ⟨kk, l, f, p, q, xs, c, hl, hi, h5⟩ := hA
  refine ⟨_, c.v0, _, h5, a, i + 1, rfl, c.hs.scrL, hn, by omega, fun p' H' hp e hb => k _ _ ⟨kk, l, f, p', q, xs, ?_, hl, hi⟩⟩
  exact ⟨by rw [List.length_set]; exact c.len, sl_ne c.v0 (by decide), sl_eq (by rw [c.len]; decide), sl_ne c.v2 (by decide), sl_ne c.v3 (by decide), sl_ne c.v4 (by decide), c.k2, c.k8, c.fl, c.hs.renew hp e hb, e _ _ c.hq, c.pr.ex e⟩
/-- pairs, each a list that was not there -/
def PrN (H H' : Hp) (L : List (Nat × Nat)) (acc : List V) : Prop := Paired (fun (p : Nat × Nat) (v : V) => ∃ b, v = .ref b ∧ H b = none ∧ H' b = some (.lst [.int (p.1 : Nat), .int (p.2 : Nat)])) L acc
theorem PrN.in {L : List (Nat × Nat)} {acc : List V} (h : PrN H H' L acc) : PrIn K H' L acc := Paired.mapP h fun p v ⟨b, h1, _, h3⟩ => ⟨b, h1, .inr (SqL.of h3)⟩
theorem wipe1 {σ : L2.St} {j : Nat} {x : Option V} : wipe ((wipe σ [j]).set j x) [j] = wipe σ [j] := by
  show ((σ.set j none).set j x).set j none = σ.set j none
  rw [List.set_set, List.set_set]
theorem wipe_at {σ : L2.St} {j : Nat} {x : V} (h : j < σ.length) : ((wipe σ [j]).set j (some x))[j]? = some (some x) := sl_eq (by show j < (σ.set j none).length; rw [List.length_set]; exact h)
theorem wipe_ne {σ : L2.St} {i j : Nat} {x : Option V} {y : V} (h : σ[i]? = some (some y)) (n : j ≠ i) : ((wipe σ [j]).set j x)[i]? = some (some y) := sl_ne (sl_ne h n) n
/-- [list(x) for x in the shape] -/
theorem lc_lists {L : List (Nat × Nat)} {i j : Nat} {Q : VK} (hi : σ[i]? = some (some (.ref q))) (hj : j < σ.length) (hq : H q = some (.tup xs)) (pr : PrT H L xs) (hz : L.length ≤ 40000)
    (k : ∀ D acc H', H D = none → Ex H H' → H' D = some (.lst acc) → PrN H H' L acc → Q (.ref D) H') : tLc (iSeq K (tVar i)) (gName j) tYes (tCB (rListOf K) (tCons (tVar j) tNil)) [j] σ H Q := by
  have hl : L.length = xs.length := Paired.length pr
  refine ⟨.ref q, hi, q, xs, rfl, .inl (SqT.of hq), fun J Gd wk hG D hD => ?_⟩
  refine lc_gen wk (fun m H' acc => (∃ z, H' D = some (.lst z)) ∧ Paired (fun (p : Nat × Nat) (v : V) => ∃ b, v = .ref b ∧ b ≠ D ∧ H b = none ∧ H' b = some (.lst [.int (p.1 : Nat), .int (p.2 : Nat)])) (L.take m) acc) (by omega) hD (fun m H' xs ys acc h r => ?_) ⟨⟨[], upd_same⟩, .nil⟩ hG ?_ ?_
  · exact ⟨⟨ys, upd_same⟩, Paired.mapP r.2 fun p v ⟨b, h1, h2, h4, h3⟩ => ⟨b, h1, h2, h4, by rw [upd_ne h2]; exact h3⟩⟩
  · intro m x Ha Hb acc hi ex y hR Qy Qn hy hn
    obtain ⟨rfl, hx⟩ := y
    obtain ⟨⟨z, hz⟩, hR⟩ := hR
    obtain ⟨p, hpL, b, rfl, hb⟩ := Paired.at pr hx
    have tk : L.take (m + 1) = L.take m ++ [p] := by rw [List.take_add_one, hpL]; rfl
    refine ⟨wipe1, yes_then ⟨.ref b, wipe_at hj, b, [.int (p.1 : Nat), .int (p.2 : Nat)], rfl, .inr (SqT.of (ex _ _ hb)), fun r hr => hy _ _ (Ex.new hr) ?_⟩⟩
    rw [tk]
    exact ⟨⟨z, Ex.new hr _ _ hz⟩, Paired.app (Paired.mapP hR fun p v ⟨b, h1, h2, h4, h3⟩ => ⟨b, h1, h2, h4, Ex.new hr _ _ h3⟩) (.cons ⟨r, rfl, (fun e => by rw [e, hz] at hr; cases hr), fresh_back ex hr, upd_same⟩ .nil)⟩
  · intro H4 acc e4 hD4 hR
    rw [← hl, List.take_length] at hR
    exact k D acc H4 hD e4 hD4 (Paired.mapP hR.2 fun p v ⟨b, h1, h2, h4, h3⟩ => ⟨b, h1, h4, h3⟩)
theorem Ctx.lay (c : Ctx K T a ns k l f p q xs σ H) (s : Stp T p H H') {r : Addr} {ys : List V} (h : H' r = some (.tup ys)) (hp : PrT H' (Sh.shp k f (l + 1)) ys) : Ctx K T a ns k (l + 1) f p r ys ((σ.set 3 (some (.ref r))).set 4 (some (.int ((l : Int) + 1)))) H' := by
  have c' := c.step s
  refine ⟨by rw [List.length_set, List.length_set]; exact c.len, sl_ne (sl_ne c.v0 (by decide)) (by decide), sl_ne (sl_ne c.v1 (by decide)) (by decide), sl_ne (sl_ne c.v2 (by decide)) (by decide), sl_ne (sl_eq (by rw [c.len]; decide)) (by decide),
    sl_eq (by rw [List.length_set, c.len]; decide), c.k2, c.k8, Nat.le_succ_of_le c.fl, c'.hs, h, hp⟩
theorem ti_turn (hr : Room 8 (LX P w K mg base fa cdv s0 H0).A) (G : Mg mg) (C1 : Cal0 P w K mg base "_law_pick" ["_law_box_here", "_law_some"] sPick 2 spPick fPick dPick) (C2 : Cal0 P w K mg base "_law_take" ["_law_box_here", "_law_many"] sTake 1 spTake fTake dTake)
    (C3 : Cal0 P w K mg base "lay_shape" ["laid", "some", "keep"] sLayShape 7 (spLay K T) fLS dLS) (W3 : KwOk K dLS ["laid", "some", "keep"] ["keep", "some", "laid"] (perm [2, 1, 0]) (perm [2, 1, 0])) : Ti (LX P w K mg base fa cdv s0 H0) (forS 1) (B1 K T a ns) (B2 K T a ns) := by
  refine ⟨_, ps_for PassesOwn.never rfl (pi_range1 (by rfl) G.range (pa_cons (pe_call C1.ok (hr.mono (by decide)) (by rfl) C1.ns.mg C1.ns.fn.kp C1.ns.bd .nil pass0 (pa_cons (pv 1) (pa_cons (pe_lst (pa_cons pe_int (pa_cons pe_int (pa_cons pe_int (pa_cons pe_int pa_nil))))) pa_nil))) pa_nil)) (pg_name (i := 6) scLaw.nd rfl (.inl rfl))
    (pss_cons (ps_set (i := 3) scLaw.nd rfl (.inl rfl) (pe_ifExp (pt_cmpR op_eq (pe_call C2.ok (hr.mono (by decide)) (by rfl) C2.ns.mg C2.ns.fn.kp C2.ns.bd .nil pass0 (pa_cons (pv 1) (pa_cons pe_int pa_nil))) pe_int (nomark _))
        (pe_call C3.ok (hr.mono (by decide)) (by rfl) C3.ns.mg C3.ns.fn.kp C3.ns.bd .nil pass0 (pa_cons (pv 4) (pa_cons (pv 3) (pa_cons (pv 2) pa_nil))))
        (pe_callW C3.ok (hr.mono (by decide)) (by rfl) C3.ns.mg C3.ns.fn.kp W3 pass0 (pk_cons (pv 2) (pk_cons
          (pe_lc (own := [("_law_one", 17)]) (te := tCB (rListOf K) (tCons (tVar 17) tNil)) (by rfl) scLaw.nd (pi_seq (pv 3)) (blkOk_by (own := [("_law_one", 17)]) (N := lawN) (sc := defScope sLaw) (by decide +kernel))
            (fun _ _ _ _ _ => pg_name (i := 17) scLaw.nd rfl (.inl rfl)) (fun _ _ _ _ _ => pts_nil) (fun _ _ _ _ _ => pe_callTy (T := "list") call_list_of (by rfl) G.list (by decide +kernel) (pa_cons (pv 17) pa_nil))) (pk_cons (pv 4) pk_nil))))))
      (pss_one (ps_set (i := 4) scLaw.nd rfl (.inl rfl) (pe_op op_add (pv 4) pe_int)))), fun i D σ H hA kk => ?_⟩
  obtain ⟨k, l, f, p, q, xs, c, hl, hi⟩ := hA
  refine ⟨.ref p, c.v1, by show 4 ≤ sizeLine; decide, fun r hr => ?_⟩
  have c1 := c.ex (Ex.new hr (o := .lst [V.int 1, .int 1, .int 2, .int 5]))
  obtain ⟨g, s', hbx, _⟩ := c.hs.box
  have hrp : r ≠ p := fun z => by rw [z, hbx] at hr; cases hr
  refine ⟨p, r, _, rfl, c1.hs.box, upd_same, hrp, by show 1 ≤ 4; decide, by show 4 ≤ 1000; decide, fun v H1 hv e1 => ?_⟩
  obtain ⟨n, rfl, hn1, hn5⟩ : ∃ n : Nat, v = .int n ∧ 1 ≤ n ∧ n ≤ 5 := by
    rcases List.mem_cons.mp hv with z | hv
    · exact ⟨1, z, by decide, by decide⟩
    · rcases List.mem_cons.mp hv with z | hv
      · exact ⟨1, z, by decide, by decide⟩
      · rcases List.mem_cons.mp hv with z | hv
        · exact ⟨2, z, by decide, by decide⟩
        · rcases List.mem_cons.mp hv with z | hv
          · exact ⟨5, z, by decide, by decide⟩
          · cases hv
  have c2 := c1.step (c1.hs.exB e1)
  refine ⟨(n : Int), rfl, by omega, by omega, for_range (lo := 0) (n := n) (fun j σ' H' => ∃ k l f p q xs, Ctx K T a ns k l f p q xs σ' H' ∧ l ≤ 5 * i + j ∧ j ≤ l) ⟨k, l, f, p, q, xs, c2, by omega, by omega⟩ (fun j σ' H' hj p1 => ?_) fun σ' H' p1 => ?_⟩
  · obtain ⟨k, l, f, p, q, xs, c, hl, hjl⟩ := p1
    have c := c.set (i := 6) (v := some (.int (0 + (j : Int)))) (by decide)
    show tSeq _ _ _ (σ'.set 6 (some (.int (0 + (j : Int))))) H'
    generalize σ'.set 6 (some (.int (0 + (j : Int)))) = σ at c
    refine ⟨.ref p, c.v1, p, 2, rfl, by decide, by decide, c.hs.box, fun d H1 hd e1 => ⟨rfl, _, rfl, ?_⟩⟩
    have st1 := c.hs.exB e1
    have c1 := c.step st1
    refine ite2 (fun _ => ?_) fun _ => ?_
    · refine ⟨_, c1.v4, _, c1.v3, _, c1.v2, k, f, l, .ref q, rfl, c1.k2, c1.k8, c1.fl, by omega, c1.shin, c1.hs.tab, fun r ys H3 hr e3 h3 hP => ?_⟩
      exact ⟨.int l, sl_ne c1.v4 (by decide), l, 1, rfl, rfl, k, l + 1, f, p, r, ys, c1.lay (c1.hs.exT e3) h3 hP, by omega, by omega⟩
    · refine ⟨_, c1.v2, lc_lists c1.v3 (by rw [c1.len]; decide) c1.hq c1.pr (by have := c1.hl; omega) fun D acc H2 hD e2 hD2 hin => ?_⟩
      have c2 := c1.ex e2
      refine ⟨_, c2.v4, k, f, l, .ref D, rfl, c2.k2, c2.k8, c2.fl, by omega, ⟨D, acc, rfl, .inr (SqL.of hD2), hin.in⟩, c2.hs.tab, fun r ys H3 hr e3 h3 hP => ?_⟩
      exact ⟨.int l, sl_ne c2.v4 (by decide), l, 1, rfl, rfl, k, l + 1, f, p, r, ys, c2.lay (c2.hs.exT e3) h3 hP, by omega, by omega⟩
  · obtain ⟨k, l, f, p, q, xs, c, hl, hjl⟩ := p1
    exact kk σ' H' ⟨k, l, f, p, q, xs, c, by omega, by omega, by omega, hi⟩
end
end K10

set_option Elab.async false
set_option linter.all false
set_option maxRecDepth 100000
set_option maxHeartbeats 4000000
namespace Pu
open PySem PySem.Spec PyProof.Rows L2 GxR Evl
/-- data that is small enough to be shown -/
structure Sm (n m : Nat) (d : PyData) : Prop where
  dp : PyData.depth d ≤ n
  bk : PyData.bulk d ≤ m
  lf : PyData.leavesShort 13 d = true
  sh : PyData.showable d = true
  nd : PyData.hasDict d = false
theorem Sm.none : Sm 0 0 .none := ⟨Nat.le_refl _, Nat.le_refl _, rfl, rfl, rfl⟩
theorem Sm.int {i : Nat} (h : i ≤ 1000000) : Sm 0 0 (.int (i : Int)) := by
  refine ⟨Nat.le_refl _, Nat.le_refl _, ?_, ?_, rfl⟩
  · show decide _ = true
    exact decide_eq_true (PyData.shown_int_le (by rw [Int.natAbs_natCast]; exact Nat.lt_of_le_of_lt h (by decide)))
  · show decide _ = true
    refine decide_eq_true ?_
    rw [Int.natAbs_natCast]
    exact Nat.lt_of_lt_of_le (PySem.Flt.log2_lt_of (by decide) (Nat.lt_of_le_of_lt h (by decide : 1000000 < 2 ^ 20))) (by decide)
theorem Sm.mono {n m n' m' : Nat} {d : PyData} (s : Sm n m d) (h : n ≤ n') (k : m ≤ m') : Sm n' m' d := ⟨Nat.le_trans s.dp h, Nat.le_trans s.bk k, s.lf, s.sh, s.nd⟩
theorem sm_all {n m : Nat} : ∀ {ds : List PyData}, (∀ d ∈ ds, Sm n m d) → PyData.depthAll ds ≤ n ∧ PyData.bulkAll ds ≤ ds.length * (m + 1) ∧ PyData.leavesShortAll 13 ds = true ∧ PyData.showableAll ds = true ∧ PyData.hasDictAll ds = false
  | [], _ => ⟨Nat.zero_le _, Nat.zero_le _, rfl, rfl, rfl⟩
  | d :: ds, h => by
    obtain ⟨h1, h2, h3, h4, h5⟩ := sm_all (ds := ds) fun x hx => h x (List.mem_cons_of_mem _ hx)
    have s := h d (List.mem_cons_self ..)
    refine ⟨?_, ?_, ?_, ?_, ?_⟩
    · show max (PyData.depth d) (PyData.depthAll ds) ≤ n
      exact Nat.max_le.mpr ⟨s.dp, h1⟩
    · show PyData.bulk d + 1 + PyData.bulkAll ds ≤ (ds.length + 1) * (m + 1)
      have := s.bk
      rw [Nat.add_mul]
      omega
    · show (PyData.leavesShort 13 d && PyData.leavesShortAll 13 ds) = true
      rw [s.lf, h3]
      rfl
    · show (PyData.showable d && PyData.showableAll ds) = true
      rw [s.sh, h4]
      rfl
    · show (PyData.hasDict d || PyData.hasDictAll ds) = false
      rw [s.nd, h5]
      rfl
theorem Sm.tup {n m c : Nat} {ds : List PyData} (h : ∀ d ∈ ds, Sm n m d) (hc : ds.length ≤ c) : Sm (n + 1) (c * (m + 1)) (.tuple ds) := by
  obtain ⟨h1, h2, h3, h4, h5⟩ := sm_all h
  exact ⟨Nat.succ_le_succ h1, Nat.le_trans h2 (Nat.mul_le_mul_right _ hc), h3, h4, h5⟩
theorem Sm.lst {n m c : Nat} {ds : List PyData} (h : ∀ d ∈ ds, Sm n m d) (hc : ds.length ≤ c) : Sm (n + 1) (c * (m + 1)) (.list ds) := by
  obtain ⟨h1, h2, h3, h4, h5⟩ := sm_all h
  exact ⟨Nat.succ_le_succ h1, Nat.le_trans h2 (Nat.mul_le_mul_right _ hc), h3, h4, h5⟩
theorem Sm.pair {p : Nat × Nat} (h : p.1 + p.2 ≤ 1000000) : Sm 1 2 (dPair p) := by
  refine Sm.tup (c := 2) (m := 0) (fun d hd => ?_) (Nat.le_refl _)
  rcases List.mem_cons.mp hd with z | hd
  · rw [z]; exact Sm.int (by omega)
  · rcases List.mem_cons.mp hd with z | hd
    · rw [z]; exact Sm.int (by omega)
    · cases hd
theorem Sm.shape {L : List (Nat × Nat)} (hl : L.length ≤ 1000) (h : ∀ p ∈ L, p.1 + p.2 ≤ 1000000) : Sm 2 3000 (dShape L) := by
  refine Sm.tup (c := 1000) (m := 2) (fun d hd => ?_) (by rw [List.length_map]; exact hl)
  obtain ⟨p, hp, rfl⟩ := List.mem_map.mp hd
  exact Sm.pair (h p hp)
theorem Sm.two {n m : Nat} {d e : PyData} (h : Sm n m d) (k : Sm n m e) : Sm (n + 1) (2 * (m + 1)) (.list [d, e]) := Sm.lst (fun x hx => by
  rcases List.mem_cons.mp hx with z | hx
  · rw [z]; exact h
  · rcases List.mem_cons.mp hx with z | hx
    · rw [z]; exact k
    · cases hx) (Nat.le_refl 2)
theorem Sm.d60 {n m : Nat} {d : PyData} (s : Sm n m d) (hn : n ≤ 60) : PyData.depth d ≤ 60 := Nat.le_trans s.dp hn
theorem Sm.len {n m : Nat} {d : PyData} (s : Sm n m d) (hm : m ≤ 1000000) : d.shown.length ≤ sizeLine := PyData.shown_fits_bulk (B := 13) (by decide) (by decide) s.lf (Nat.le_trans s.bk (Nat.le_trans hm (by decide)))
/-- repr of a list or a tuple that is small: a text -/
theorem rc_repr {K : PySem.W.Frag} {H : Hp} {v : V} {d : PyData} {n m : Nat} (h : Dp K H v d) (hd : isDisplay d = true) (s : Sm n m d) (hn : n ≤ 60) (hm : m ≤ 1000000) {Q : VK} (q : Q (.str d.shown) H) : rRepr K [v] H Q :=
  ⟨v, d, rfl, h, hd, s.sh, s.nd, Nat.le_trans s.dp hn, PyData.shown_fits_bulk (B := 13) (by decide) (by decide) s.lf (Nat.le_trans s.bk (Nat.le_trans hm (by decide))), q⟩
end Pu

set_option Elab.async false
set_option linter.all false
set_option maxRecDepth 100000
set_option maxHeartbeats 4000000
namespace K10
open PySem PySem.Spec PyProof.Rows L2 GxR Pu Evl
def ifS (i : Nat) : Stmt := (bodyOf (forS 3)).getD i (.Pass ⟨0, 0, 0, 0⟩)
section
variable {P : Program} {w : World} {K : PySem.W.Frag} {mg : Str → Option Value} {base : Heap} {T a fa : Addr} {ns : List Int} {cdv : Value} {s0 : Shared} {H0 : Hp} {k l f : Nat} {p q : Addr} {xs : List V} {σ : L2.St} {H H' : Hp}
variable {fBox fTake fPick fCO fSh fIS fFO fLS fLG fSA fFB : Addr} {dBox dTake dPick dCO dSh dIS dFO dLS dLG dSA dFB : FuncData}
/-- the first row of the shape is known -/
def B3 (K : PySem.W.Frag) (T a : Addr) (ns : List Int) (i : Nat) (σ : L2.St) (H : Hp) : Prop := ∃ k l f p q xs, Ctx K T a ns k l f p q xs σ H ∧ (1 ≤ l ∧ l ≤ 300 ∧ l ≤ 5 * i + 5 ∧ i < 60) ∧ σ[7]? = some (some (.int f))
theorem ti_first {st : Stmt} (hst : st = forS 2 ∨ st = forS 4) (hr : Room 8 (LX P w K mg base fa cdv s0 H0).A) (C : Cal0 P w K mg base "first_of" ["some", "laid"] sFirstOf 1 (spV (pFirst K)) fFO dFO) : Ti (LX P w K mg base fa cdv s0 H0) st (B2 K T a ns) (B3 K T a ns) := by
  have key : ∀ {t}, t = tAsg (tCall (spV (pFirst K)) [] E0 (tCons (tVar 3) (tCons (tVar 4) tNil))) (gName 7) → PS (LX P w K mg base fa cdv s0 H0) st t → Ti (LX P w K mg base fa cdv s0 H0) st (B2 K T a ns) (B3 K T a ns) := by
    intro t e h
    subst e
    refine ⟨_, h, fun i D σ H hA kk => ?_⟩
    obtain ⟨k, l, f, p, q, xs, c, h1, h2, h3, h4⟩ := hA
    refine ⟨_, c.v3, _, c.v4, .int (f : Nat), ⟨Sh.shp k f l, l, .ref q, rfl, c.shin, by have := c.hl; omega, by rw [Sh.firstOf_sh c.k2 c.fl]⟩, fun H1 e1 => ?_⟩
    exact kk _ _ ⟨k, l, f, p, q, xs, (c.ex e1).set (by decide), ⟨h1, h2, h3, h4⟩, sl_eq (by rw [c.len]; decide)⟩
  rcases hst with rfl | rfl
  · exact key rfl (ps_set (i := 7) scLaw.nd rfl (.inl rfl) (pe_call C.ok (hr.mono (by decide)) (by rfl) C.ns.mg C.ns.fn.kp C.ns.bd .nil pass0 (pa_cons (pv 3) (pa_cons (pv 4) pa_nil))))
  · exact key rfl (ps_set (i := 7) scLaw.nd rfl (.inl rfl) (pe_call C.ok (hr.mono (by decide)) (by rfl) C.ns.mg C.ns.fn.kp C.ns.bd .nil pass0 (pa_cons (pv 3) (pa_cons (pv 4) pa_nil))))
/-- below is drawn -/
def I1 (K : PySem.W.Frag) (T a : Addr) (ns : List Int) (i : Nat) (σ : L2.St) (H : Hp) : Prop := ∃ k l f p q xs, ∃ b : Nat, Ctx K T a ns k l f p q xs σ H ∧ (1 ≤ l ∧ l ≤ 300 ∧ l ≤ 5 * i + 5 ∧ i < 60) ∧ σ[7]? = some (some (.int f)) ∧ σ[8]? = some (some (.int b)) ∧ b ≤ 1000
/-- what is due -/
def I2 (K : PySem.W.Frag) (T a : Addr) (ns : List Int) (i : Nat) (σ : L2.St) (H : Hp) : Prop := ∃ k l f p q xs, ∃ (b : Nat) (d : Addr) (ds : List V), Ctx K T a ns k l f p q xs σ H ∧ (1 ≤ l ∧ l ≤ 300 ∧ l ≤ 5 * i + 5 ∧ i < 60) ∧ σ[7]? = some (some (.int f)) ∧ σ[8]? = some (some (.int b)) ∧ b ≤ 1000 ∧
  σ[9]? = some (some (.ref d)) ∧ H d = some (.tup ds) ∧ PrT H (Sh.gone b (Sh.shp k f l)) ds
def I3 (K : PySem.W.Frag) (T a : Addr) (ns : List Int) (i : Nat) (σ : L2.St) (H : Hp) : Prop := ∃ k l f p q xs, ∃ (b : Nat) (d : Addr) (ds : List V), Ctx K T a ns k l f p q xs σ H ∧ (1 ≤ l ∧ l ≤ 300 ∧ l ≤ 5 * i + 5 ∧ i < 60) ∧ σ[7]? = some (some (.int f)) ∧ σ[8]? = some (some (.int b)) ∧ b ≤ 1000 ∧
  σ[9]? = some (some (.ref d)) ∧ H d = some (.tup ds) ∧ PrT H (Sh.gone b (Sh.shp k f l)) ds ∧ σ[10]? = some (some (.int (Sh.firstOf (Sh.gone b (Sh.shp k f l)) l : Nat)))
def I4 (K : PySem.W.Frag) (T a : Addr) (ns : List Int) (i : Nat) (σ : L2.St) (H : Hp) : Prop := ∃ k l f p q xs, ∃ (b : Nat) (d : Addr) (ds : List V) (h : Addr), Ctx K T a ns k l f p q xs σ H ∧ (1 ≤ l ∧ l ≤ 300 ∧ l ≤ 5 * i + 5 ∧ i < 60) ∧ σ[7]? = some (some (.int f)) ∧ σ[8]? = some (some (.int b)) ∧ b ≤ 1000 ∧
  σ[9]? = some (some (.ref d)) ∧ H d = some (.tup ds) ∧ PrT H (Sh.gone b (Sh.shp k f l)) ds ∧ σ[10]? = some (some (.int (Sh.firstOf (Sh.gone b (Sh.shp k f l)) l : Nat))) ∧ σ[11]? = some (some (.ref h)) ∧ ∀ H', Stp T p H H' → ShIn K H' (Sh.shp k f l) (.ref h)
def I5 (K : PySem.W.Frag) (T a : Addr) (ns : List Int) (i : Nat) (σ : L2.St) (H : Hp) : Prop := ∃ k l f p q xs, ∃ (d : Addr) (ds : List V), Ctx K T a ns k l f p q xs σ H ∧ (1 ≤ l ∧ l ≤ 300 ∧ l ≤ 5 * i + 5 ∧ i < 60) ∧ σ[9]? = some (some (.ref d)) ∧ H d = some (.tup ds) ∧ PrT H (Sh.shp k f l) ds ∧ σ[10]? = some (some (.int f))
theorem ti_below (hr : Room 8 (LX P w K mg base fa cdv s0 H0).A) (C1 : Cal0 P w K mg base "_law_pick" ["_law_box_here", "_law_some"] sPick 2 spPick fPick dPick) (C2 : Cal0 P w K mg base "_law_take" ["_law_box_here", "_law_many"] sTake 1 spTake fTake dTake) : Ti (LX P w K mg base fa cdv s0 H0) (ifS 0) (B3 K T a ns) (I1 K T a ns) := by
  refine ⟨_, ps_set (i := 8) scLaw.nd rfl (.inr rfl) (pe_call C1.ok (hr.mono (by decide)) (by rfl) C1.ns.mg C1.ns.fn.kp C1.ns.bd .nil pass0 (pa_cons (pv 1) (pa_cons (pe_lst (pa_cons (pv 4)
    (pa_cons (pe_call C2.ok (hr.mono (by decide)) (by rfl) C2.ns.mg C2.ns.fn.kp C2.ns.bd .nil pass0 (pa_cons (pv 1) (pa_cons (pe_op op_add (pv 4) pe_int) pa_nil)))
    (pa_cons (pe_op op_add (pv 7) (pe_call C2.ok (hr.mono (by decide)) (by rfl) C2.ns.mg C2.ns.fn.kp C2.ns.bd .nil pass0 (pa_cons (pv 1) (pa_cons (pe_op op_add (pe_op op_sub (pv 4) (pv 7)) pe_int) pa_nil)))) pa_nil)))) pa_nil))), fun i D σ H hA kk => ?_⟩
  obtain ⟨k, l, f, p, q, xs, c, hl, v7⟩ := hA
  have em : (l : Int) - (f : Int) + 1 = ((l - f + 1 : Nat) : Int) := by have := c.fl; omega
  refine ⟨.ref p, c.v1, .int l, c.v4, .ref p, c.v1, .int l, c.v4, l, 2, rfl, rfl, p, l + 2, rfl, by omega, by omega, c.hs.box, fun d1 H1 hd1 e1 => ?_⟩
  have c1 := c.step (c.hs.exB e1)
  refine ⟨.int f, v7, .ref p, c1.v1, .int l, c1.v4, .int f, v7, l, f, rfl, rfl, (l : Int) - f, 1, rfl, rfl, p, l - f + 1, by show [V.ref p, V.int ((l : Int) - (f : Int) + 1)] = _; rw [em], by omega, by omega, c1.hs.box, fun d2 H2 hd2 e2 => ?_⟩
  have c2 := c1.step (c1.hs.exB e2)
  refine ⟨f, d2, rfl, rfl, by show 3 ≤ sizeLine; decide, fun r hr => ?_⟩
  have c3 := c2.ex (Ex.new hr (o := .lst [V.int l, .int d1, .int ((f : Int) + d2)]))
  obtain ⟨g, s', hbx, _⟩ := c2.hs.box
  have hrp : r ≠ p := fun z => by rw [z, hbx] at hr; cases hr
  refine ⟨p, r, _, rfl, c3.hs.box, upd_same, hrp, by show 1 ≤ 3; decide, by show 3 ≤ 1000; decide, fun v H3 hv e3 => ?_⟩
  have fin : ∀ b : Nat, v = .int b → b ≤ 1000 → D.nx (σ.set 8 (some v)) H3 := fun b e hb => by
    subst e
    exact kk _ _ ⟨k, l, f, p, q, xs, b, (c3.step (c3.hs.exB e3)).set (by decide), hl, sl_ne v7 (by decide), sl_eq (by rw [c.len]; decide), hb⟩
  have hfl := c.fl
  rcases List.mem_cons.mp hv with z | hv
  · exact fin l z (by omega)
  · rcases List.mem_cons.mp hv with z | hv
    · exact fin d1 z (by omega)
    · rcases List.mem_cons.mp hv with z | hv
      · exact fin (f + d2) (by rw [z]; rfl) (by omega)
      · cases hv
theorem ti_due (hr : Room 8 (LX P w K mg base fa cdv s0 H0).A) (G : Mg mg) : Ti (LX P w K mg base fa cdv s0 H0) (ifS 1) (I1 K T a ns) (I2 K T a ns) := by
  refine ⟨_, ps_set (i := 9) scLaw.nd rfl (.inl rfl) (pe_callTy call_tuple_of (by rfl) G.tuple (by decide +kernel) (pa_cons
    (pe_lc (own := [("_law_one", 17)]) (te := tVar 17) (tt := tTest (tOp (rI0 fun i j => .bl (decide (j < i))) (tOp (rI0 fun i j => .int (i + j)) (tOp (rIxT K) (tVar 17) (tC (.int 0))) (tOp (rIxT K) (tVar 17) (tC (.int 1)))) (tVar 8))) (by rfl) scLaw.nd (pi_seq (pv 3)) (blkOk_by (own := [("_law_one", 17)]) (N := lawN) (sc := defScope sLaw) (by decide +kernel))
      (fun _ _ _ _ _ => pg_name (i := 17) scLaw.nd rfl (.inl rfl)) (fun _ _ _ _ _ => pts_one (pt_cmpR op_gt (pe_op op_add (pe_ix ix_tup (pv 17) pe_int (fun _ _ => rfl)) (pe_ix ix_tup (pv 17) pe_int (fun _ _ => rfl))) (pv 8) (nomark _))) (fun _ _ _ _ _ => pv 17)) pa_nil)), fun i D σ H hA kk => ?_⟩
  obtain ⟨k, l, f, p, q, xs, b, c, hl, v7, v8, hb⟩ := hA
  refine ⟨.ref q, c.v3, q, xs, rfl, .inl (SqT.of c.hq), fun J Gd wk hG D' hD => ?_⟩
  have hxl := c.hx
  have hll := c.hl
  refine lc_gen wk (fun m H' acc => PrT H' (Sh.gone b ((Sh.shp k f l).take m)) acc) (by omega) hD (fun m H xs ys acc h r => r.upd h) .nil hG ?_ ?_
  · intro m x Ha Hb acc hi ex y hR Qy Qn hy hn
    obtain ⟨rfl, hx⟩ := y
    obtain ⟨p1, hpL, e, rfl, he⟩ := Paired.at c.pr hx
    have tk : (Sh.shp k f l).take (m + 1) = (Sh.shp k f l).take m ++ [p1] := by rw [List.take_add_one, hpL]; rfl
    have se : SqT K Hb e [.int (p1.1 : Nat), .int (p1.2 : Nat)] := SqT.of (ex _ _ he)
    refine ⟨wipe1, test_then (b := decide ((b : Int) < (p1.1 : Int) + (p1.2 : Int))) (et_test (ev_op (ev_op (ev_op (ev_var (wipe_at (by rw [c.len]; decide))) ev_c (rv_ixT se rfl)) (ev_op (ev_var (wipe_at (by rw [c.len]; decide))) ev_c (rv_ixT se rfl)) rv_I0) (ev_var (wipe_ne v8 (by decide))) rv_I0)) (fun hb H3 e3 => ?_) fun hb H3 e3 => ?_⟩
    · have hlt : b < p1.1 + p1.2 := by have := of_decide_eq_true hb; omega
      refine ⟨_, wipe_at (by rw [c.len]; decide), hy _ _ e3 ?_⟩
      rw [tk, gone_snoc, if_pos hlt]
      exact (hR.ex e3).snoc (e3 _ _ (ex _ _ he))
    · have hlt : ¬ b < p1.1 + p1.2 := fun z => of_decide_eq_false hb (by omega)
      refine hn H3 e3 ?_
      rw [tk, gone_snoc, if_neg hlt]
      exact hR.ex e3
  · intro H4 acc e4 hD4 hR
    rw [← hxl, List.take_length] at hR
    refine ⟨D', acc, rfl, .inl ⟨SqL.of hD4, fun r hr => ?_⟩⟩
    exact kk _ _ ⟨k, l, f, p, q, xs, b, r, acc, (c.ex (e4.trans (Ex.new hr))).set (by decide), hl, sl_ne v7 (by decide), sl_ne v8 (by decide), hb, sl_eq (by rw [c.len]; decide), upd_same, hR.ex (Ex.new hr)⟩
theorem ti_after (hr : Room 8 (LX P w K mg base fa cdv s0 H0).A) : Ti (LX P w K mg base fa cdv s0 H0) (ifS 2) (I2 K T a ns) (I3 K T a ns) := by
  have hu : (LX P w K mg base fa cdv s0 H0).A.units + 64 < cLine := hr.units
  refine ⟨_, ps_set (i := 10) scLaw.nd rfl (.inl rfl) (pe_ifExp (pt_cmpR (op_neD hu) (pv 9) (pe_tup pa_nil) (nomark _)) (pe_ix ix_tup (pe_ix ix_tup (pv 9) pe_int (fun _ _ => rfl)) pe_int (fun _ _ => rfl)) (pv 4)), fun i D σ H hA kk => ?_⟩
  obtain ⟨k, l, f, p, q, xs, b, d, ds, c, hl, v7, v8, hb, v9, hd, hP⟩ := hA
  refine ⟨.ref d, v9, by show 0 ≤ sizeLine; decide, fun r hr => ?_⟩
  have e1 := Ex.new (H := H) (o := .tup []) hr
  have c1 := c.ex e1
  have hd1 := e1 _ _ hd
  have hP1 := hP.ex e1
  refine ⟨dShape (Sh.gone b (Sh.shp k f l)), .tuple [], dpShape (SqT.of hd1) hP1.s, .tup (SqT.of upd_same) .nil, shape_shaped _, rfl, _, rfl, ?_⟩
  have fin : D.nx (σ.set 10 (some (.int (Sh.firstOf (Sh.gone b (Sh.shp k f l)) l : Nat)))) (upd H r (.tup [])) := kk _ _ ⟨k, l, f, p, q, xs, b, d, ds, c1.set (by decide), hl, sl_ne v7 (by decide), sl_ne v8 (by decide), hb, sl_ne v9 (by decide), hd1, hP1, sl_eq (by rw [c.len]; decide)⟩
  generalize Sh.gone b (Sh.shp k f l) = L at fin hP1
  cases hP1 with
  | nil =>
    refine ite2 (fun z => absurd z (by decide)) fun _ => ?_
    exact ⟨_, c1.v4, fin⟩
  | @cons p1 v L ds r1 t =>
    obtain ⟨e, rfl, he⟩ := r1
    refine ite2 (fun _ => ?_) fun z => absurd rfl z
    have i0 : atI (V.ref e :: ds) ((0 : Nat) : Int) = some (V.ref e) := atI_nat rfl
    have i1 : atI [V.int (p1.1 : Nat), V.int (p1.2 : Nat)] ((0 : Nat) : Int) = some (V.int (p1.1 : Nat)) := atI_nat rfl
    exact ⟨.ref d, v9, d, _, 0, _, rfl, rfl, SqT.of hd1, i0, e, _, 0, _, rfl, rfl, SqT.of he, i1, fin⟩
theorem ti_behind (hr : Room 8 (LX P w K mg base fa cdv s0 H0).A) (G : Mg mg) (C : Cal0 P w K mg base "first_behind" ["keep", "first", "laid", "below"] sFirstBehind 7 (spV pBehind) fFB dFB) (W : KwOk K dFB ["keep", "first", "laid", "below"] ["below", "laid", "first", "keep"] (perm [3, 2, 1, 0]) (perm [3, 2, 1, 0])) : Ti (LX P w K mg base fa cdv s0 H0) (ifS 3) (I3 K T a ns) (I3 K T a ns) := by
  have hu : (LX P w K mg base fa cdv s0 H0).A.units + 64 < cLine := hr.units
  have hg : (LX P w K mg base fa cdv s0 H0).A.guards = some [] := rfl
  refine ⟨_, ps_if (pt_cmpR op_ne (pe_callB (cr_repr hu hg) (by rfl) G.repr boot_repr (pa_cons (pe_lst (pa_cons (pe_call C.ok (hr.mono (by decide)) (by rfl) C.ns.mg C.ns.fn.kp C.ns.bd .nil pass0 (pa_cons (pv 2) (pa_cons (pv 7) (pa_cons (pv 4) (pa_cons (pv 8) pa_nil)))))
    (pa_cons (pe_callW C.ok (hr.mono (by decide)) (by rfl) C.ns.mg C.ns.fn.kp W pass0 (pk_cons (pv 8) (pk_cons (pv 4) (pk_cons (pv 7) (pk_cons (pv 2) pk_nil))))) pa_nil))) pa_nil))
    (pe_callB (cr_repr hu hg) (by rfl) G.repr boot_repr (pa_cons (pe_lst (pa_cons (pv 10) (pa_cons (pv 10) pa_nil))) pa_nil)) (nomark _)) (pss_one (ps_ret pe_bl)) pss_nil, fun i D σ H hA kk => ?_⟩
  obtain ⟨k, l, f, p, q, xs, b, d, ds, c, hl, v7, v8, hb, v9, hd, hP, v10⟩ := hA
  obtain ⟨z, hz⟩ : ∃ z, z = Sh.firstOf (Sh.gone b (Sh.shp k f l)) l := ⟨_, rfl⟩
  have hzl : z ≤ l := by rw [hz]; exact (Sh.gone_shp c.k2 c.fl).1
  have sm : Sm 1 2 (.list [.int (z : Int), .int (z : Int)]) := Sm.two (n := 0) (m := 0) (Sm.int (by omega)) (Sm.int (by omega))
  refine ⟨_, c.v2, _, v7, _, c.v4, _, v8, .int (z : Nat), ⟨k, f, l, b, rfl, c.k2, c.k8, c.fl, by omega, by rw [hz]⟩, fun H1 e1 => ?_⟩
  refine ⟨_, v8, _, c.v4, _, v7, _, c.v2, .int (z : Nat), ⟨k, f, l, b, rfl, c.k2, c.k8, c.fl, by omega, by rw [hz]⟩, fun H2 e2 => ?_⟩
  refine ⟨by show 2 ≤ sizeLine; decide, fun r hr => ?_⟩
  refine ⟨_, .list [.int (z : Int), .int (z : Int)], rfl, .lst (SqL.of upd_same) (.cons (.int _) (.cons (.int _) .nil)), rfl, sm.sh, sm.nd, sm.d60 (by decide), sm.len (by decide), ?_⟩
  refine ⟨_, v10, _, v10, by show 2 ≤ sizeLine; decide, fun r2 hr2 => ?_⟩
  refine ⟨_, .list [.int (z : Int), .int (z : Int)], rfl, .lst (SqL.of upd_same) (by rw [hz]; exact .cons (.int _) (.cons (.int _) .nil)), rfl, sm.sh, sm.nd, sm.d60 (by decide), sm.len (by decide), ?_⟩
  refine ⟨rfl, _, rfl, ite2 (fun z => absurd z (by simp)) fun _ => ?_⟩
  have ex := (e1.trans e2).trans ((Ex.new hr).trans (Ex.new hr2 (o := .lst [V.int (Sh.firstOf (Sh.gone b (Sh.shp k f l)) l : Nat), V.int (Sh.firstOf (Sh.gone b (Sh.shp k f l)) l : Nat)])))
  exact kk _ _ ⟨k, l, f, p, q, xs, b, d, ds, c.ex ex, hl, v7, v8, hb, v9, ex _ _ hd, hP.ex ex, v10⟩
theorem ti_handed (G : Mg mg) : Ti (LX P w K mg base fa cdv s0 H0) (ifS 4) (I3 K T a ns) (I4 K T a ns) := by
  refine ⟨_, ps_setLc (i := 11) (own := [("_law_one", 17)]) (te := tCB (rListOf K) (tCons (tVar 17) tNil)) (by rfl) scLaw.nd rfl rfl (sw_true rfl rfl rfl (by decide +kernel)) (pi_seq (pv 3)) (blkOk_by (own := [("_law_one", 17)]) (N := lawN) (sc := defScope sLaw) (by decide +kernel))
            (fun _ _ _ _ _ => pg_name (i := 17) scLaw.nd rfl (.inl rfl)) (fun _ _ _ _ _ => pts_nil) (fun _ _ _ _ _ => pe_callTy (T := "list") call_list_of (by rfl) G.list (by decide +kernel) (pa_cons (pv 17) pa_nil)), fun i D σ H hA kk => ?_⟩
  obtain ⟨k, l, f, p, q, xs, b, d, ds, c, hl, v7, v8, hb, v9, hd, hP, v10⟩ := hA
  refine lc_lists c.v3 (by rw [c.len]; decide) c.hq c.pr (by have := c.hl; omega) fun D' acc H1 hD e1 hD1 hin => ?_
  refine kk _ _ ⟨k, l, f, p, q, xs, b, d, ds, D', (c.ex e1).set (by decide), hl, sl_ne v7 (by decide), sl_ne v8 (by decide), hb, sl_ne v9 (by decide), e1 _ _ hd, hP.ex e1, sl_ne v10 (by decide), sl_eq (by rw [c.len]; decide), fun H' s => ?_⟩
  have h1 := (c.ex e1).hs
  have np : ∀ {y : Addr}, H y = none → y ≠ p := fun {y} hy z => by
    obtain ⟨g, s', hbx, _⟩ := c.hs.box
    rw [z, hbx] at hy
    cases hy
  exact ⟨D', acc, rfl, .inr (SqL.of (s.lst h1 (np hD) hD1)), Paired.mapP hin fun p v ⟨y, h2, h3, h4⟩ => ⟨y, h2, .inr (SqL.of (s.lst h1 (np h3) h4))⟩⟩
theorem ti_go (hr : Room 8 (LX P w K mg base fa cdv s0 H0).A) (C2 : Cal0 P w K mg base "_law_take" ["_law_box_here", "_law_many"] sTake 1 spTake fTake dTake) (C : Cal0 P w K mg base "let_go_shape" ["some", "below"] sLetGo 4 (spSh (pGo K)) fLG dLG) (W : KwOk K dLG ["some", "below"] ["below", "some"] (perm [1, 0]) (perm [1, 0])) : Ti (LX P w K mg base fa cdv s0 H0) (ifS 5) (I4 K T a ns) (I5 K T a ns) := by
  refine ⟨_, ps_set (i := 3) scLaw.nd rfl (.inl rfl) (pe_ifExp (pt_cmpR op_eq (pe_call C2.ok (hr.mono (by decide)) (by rfl) C2.ns.mg C2.ns.fn.kp C2.ns.bd .nil pass0 (pa_cons (pv 1) (pa_cons pe_int pa_nil))) pe_int (nomark _))
    (pe_call C.ok (hr.mono (by decide)) (by rfl) C.ns.mg C.ns.fn.kp C.ns.bd .nil pass0 (pa_cons (pv 3) (pa_cons (pv 8) pa_nil)))
    (pe_callW C.ok (hr.mono (by decide)) (by rfl) C.ns.mg C.ns.fn.kp W pass0 (pk_cons (pv 8) (pk_cons (pv 11) pk_nil)))), fun i D σ H hA kk => ?_⟩
  obtain ⟨k, l, f, p, q, xs, b, d, ds, h, c, hl, v7, v8, hb, v9, hd, hP, v10, v11, hh⟩ := hA
  obtain ⟨g1, g2⟩ := Sh.gone_shp (b := b) c.k2 c.fl
  refine ⟨.ref p, c.v1, p, 2, rfl, by decide, by decide, c.hs.box, fun d1 H1 hd1 e1 => ⟨rfl, _, rfl, ?_⟩⟩
  have st1 := c.hs.exB e1
  have c1 := c.step st1
  have hd1' := st1.tup c.hs hd
  have hP1 := st1.prT c.hs hP
  have fin : ∀ (r : Addr) (ys : List V) (H3 : Hp), Ex H1 H3 → H3 r = some (.tup ys) → PrT H3 (Sh.gone b (Sh.shp k f l)) ys → D.nx (σ.set 3 (some (.ref r))) H3 := fun r ys H3 e3 h3 hP3 => by
    rw [g2] at hP1 hP3
    have c3 := c1.ex e3
    exact kk _ _ ⟨k, l, _, p, r, ys, d, ds, ⟨by rw [List.length_set]; exact c.len, sl_ne c.v0 (by decide), sl_ne c.v1 (by decide), sl_ne c.v2 (by decide), sl_eq (by rw [c.len]; decide), sl_ne c.v4 (by decide), c.k2, c.k8, g1, c3.hs, h3, hP3⟩, hl, sl_ne v9 (by decide), e3 _ _ hd1', hP1.ex e3, sl_ne v10 (by decide)⟩
  have len : (Sh.shp k f l).length ≤ 10000 := by have := c.hl; omega
  refine ite2 (fun _ => ?_) fun _ => ?_
  · exact ⟨_, c1.v3, _, v8, _, ⟨Sh.shp k f l, b, .ref q, rfl, c1.shin, len, rfl⟩, fun r ys H3 hr e3 h3 hP3 => fin r ys H3 e3 h3 hP3⟩
  · exact ⟨_, v8, _, v11, _, ⟨Sh.shp k f l, b, .ref h, rfl, hh H1 st1, len, rfl⟩, fun r ys H3 hr e3 h3 hP3 => fin r ys H3 e3 h3 hP3⟩
theorem ti_gone (hr : Room 8 (LX P w K mg base fa cdv s0 H0).A) (G : Mg mg) (C : Cal0 P w K mg base "first_of" ["some", "laid"] sFirstOf 1 (spV (pFirst K)) fFO dFO) (W : KwOk K dFO ["some", "laid"] ["laid", "some"] (perm [1, 0]) (perm [1, 0])) : Ti (LX P w K mg base fa cdv s0 H0) (ifS 6) (I5 K T a ns) (B2 K T a ns) := by
  have hu : (LX P w K mg base fa cdv s0 H0).A.units + 64 < cLine := hr.units
  have hg : (LX P w K mg base fa cdv s0 H0).A.guards = some [] := rfl
  refine ⟨_, ps_if (PW.pt (pw_or (pt_cmpR op_ne (pe_callB (cr_repr hu hg) (by rfl) G.repr boot_repr (pa_cons (pv 3) pa_nil)) (pe_callB (cr_repr hu hg) (by rfl) G.repr boot_repr (pa_cons (pv 9) pa_nil)) (nomark _))
    (pw_or1 (pt_cmpR op_ne (pe_callW C.ok (hr.mono (by decide)) (by rfl) C.ns.mg C.ns.fn.kp W pass0 (pk_cons (pv 4) (pk_cons (pv 3) pk_nil))) (pv 10) (nomark _))))) (pss_one (ps_ret pe_bl)) pss_nil, fun i D σ H hA kk => ?_⟩
  obtain ⟨k, l, f, p, q, xs, d, ds, c, hl, v9, hd, hP, v10⟩ := hA
  have len : (Sh.shp k f l).length ≤ 10000 := by have := c.hl; omega
  have sm : Sm 2 3000 (dShape (Sh.shp k f l)) := Sm.shape (by have := c.hl; omega) fun p1 hp1 => by
    have := Sh.shp_mem c.k2 c.fl hp1
    omega
  refine ⟨.ref q, c.v3, ?_⟩
  refine ⟨_, dShape (Sh.shp k f l), rfl, dpShape (SqT.of c.hq) c.pr.s, rfl, sm.sh, sm.nd, sm.d60 (by decide), sm.len (by decide), ?_⟩
  refine ⟨.ref d, v9, ?_⟩
  refine ⟨_, dShape (Sh.shp k f l), rfl, dpShape (SqT.of hd) hP.s, rfl, sm.sh, sm.nd, sm.d60 (by decide), sm.len (by decide), ?_⟩
  refine ⟨rfl, _, rfl, ite2 (fun z => absurd z (by simp)) fun _ => ?_⟩
  refine ⟨_, c.v4, _, c.v3, .int (f : Nat), ⟨Sh.shp k f l, l, .ref q, rfl, c.shin, len, by rw [Sh.firstOf_sh c.k2 c.fl]⟩, fun H1 e1 => ⟨_, v10, rfl, _, rfl, ite2 (fun z => absurd z (by simp)) fun _ => ?_⟩⟩
  exact kk _ _ ⟨k, l, f, p, q, xs, c.ex e1, hl⟩
end
end K10

set_option Elab.async false
set_option linter.all false
set_option maxRecDepth 100000
set_option maxHeartbeats 4000000
namespace K10
open PySem PySem.Spec PyProof.Rows L2 GxR Pu Evl
section
variable {P : Program} {w : World} {K : PySem.W.Frag} {mg : Str → Option Value} {base : Heap} {T a fa : Addr} {ns : List Int} {cdv : Value} {s0 : Shared} {H0 : Hp} {k l f : Nat} {p q : Addr} {xs : List V} {σ : L2.St} {H H' : Hp}
variable {fBox fTake fPick fCO fSh fIS fFO fLS fLG fSA fFB : Addr} {dBox dTake dPick dCO dSh dIS dFO dLS dLG dSA dFB : FuncData}
theorem ti_if (hr : Room 8 (LX P w K mg base fa cdv s0 H0).A) (G : Mg mg) (C1 : Cal0 P w K mg base "_law_pick" ["_law_box_here", "_law_some"] sPick 2 spPick fPick dPick) (C2 : Cal0 P w K mg base "_law_take" ["_law_box_here", "_law_many"] sTake 1 spTake fTake dTake)
    (C3 : Cal0 P w K mg base "first_behind" ["keep", "first", "laid", "below"] sFirstBehind 7 (spV pBehind) fFB dFB) (W3 : KwOk K dFB ["keep", "first", "laid", "below"] ["below", "laid", "first", "keep"] (perm [3, 2, 1, 0]) (perm [3, 2, 1, 0]))
    (C4 : Cal0 P w K mg base "let_go_shape" ["some", "below"] sLetGo 4 (spSh (pGo K)) fLG dLG) (W4 : KwOk K dLG ["some", "below"] ["below", "some"] (perm [1, 0]) (perm [1, 0]))
    (C5 : Cal0 P w K mg base "first_of" ["some", "laid"] sFirstOf 1 (spV (pFirst K)) fFO dFO) (W5 : KwOk K dFO ["some", "laid"] ["laid", "some"] (perm [1, 0]) (perm [1, 0])) : Ti (LX P w K mg base fa cdv s0 H0) (forS 3) (B3 K T a ns) (B2 K T a ns) := by
  have inner : Tis (LX P w K mg base fa cdv s0 H0) (bodyOf (forS 3)) (B3 K T a ns) (B2 K T a ns) :=
    Tis.cons (ti_below hr C1 C2) (Tis.cons (ti_due hr G) (Tis.cons (ti_after hr) (Tis.cons (ti_behind hr G C3 W3) (Tis.cons (ti_handed G) (Tis.cons (ti_go hr C2 C4 W4) (Tis.one (ti_gone hr G C5 W5)))))))
  obtain ⟨tb, hb1, hb2⟩ := inner
  refine ⟨_, ps_if (pt_cmpR op_eq (pe_call C2.ok (hr.mono (by decide)) (by rfl) C2.ns.mg C2.ns.fn.kp C2.ns.bd .nil pass0 (pa_cons (pv 1) (pa_cons pe_int pa_nil))) pe_int (nomark _)) hb1 pss_nil, fun i D σ H hA kk => ?_⟩
  obtain ⟨k, l, f, p, q, xs, c, hl, v7⟩ := hA
  refine ⟨.ref p, c.v1, p, 4, rfl, by decide, by decide, c.hs.box, fun d1 H1 hd1 e1 => ⟨rfl, _, rfl, ?_⟩⟩
  have c1 := c.step (c.hs.exB e1)
  exact ite2 (fun _ => hb2 i D σ H1 ⟨k, l, f, p, q, xs, c1, hl, v7⟩ kk) fun _ => kk _ _ ⟨k, l, f, p, q, xs, c1, hl⟩
theorem sm_shape {k l f : Nat} (k2 : 2 ≤ k) (fl : f ≤ l) (hl : l ≤ 300) : Sm 2 3000 (dShape (Sh.shp k f l)) := Sm.shape (by have := Sh.shp_len (f := f) (l := l) k2; omega) fun p1 hp1 => by
  have := Sh.shp_mem k2 fl hp1
  omega
theorem ti_shape (hr : Room 8 (LX P w K mg base fa cdv s0 H0).A) (G : Mg mg) (C : Cal0 P w K mg base "shape" ["keep", "first", "laid"] sShape 6 (spSh pShape) fSh dSh) (W : KwOk K dSh ["keep", "first", "laid"] ["laid", "first", "keep"] (perm [2, 1, 0]) (perm [2, 1, 0])) : Ti (LX P w K mg base fa cdv s0 H0) (forS 5) (B3 K T a ns) (B3 K T a ns) := by
  have hu : (LX P w K mg base fa cdv s0 H0).A.units + 64 < cLine := hr.units
  have hg : (LX P w K mg base fa cdv s0 H0).A.guards = some [] := rfl
  refine ⟨_, ps_if (pt_cmpR op_ne (pe_callB (cr_repr hu hg) (by rfl) G.repr boot_repr (pa_cons (pe_lst (pa_cons (pe_call C.ok (hr.mono (by decide)) (by rfl) C.ns.mg C.ns.fn.kp C.ns.bd .nil pass0 (pa_cons (pv 2) (pa_cons (pv 7) (pa_cons (pv 4) pa_nil))))
    (pa_cons (pe_callW C.ok (hr.mono (by decide)) (by rfl) C.ns.mg C.ns.fn.kp W pass0 (pk_cons (pv 4) (pk_cons (pv 7) (pk_cons (pv 2) pk_nil)))) pa_nil))) pa_nil))
    (pe_callB (cr_repr hu hg) (by rfl) G.repr boot_repr (pa_cons (pe_lst (pa_cons (pv 3) (pa_cons (pv 3) pa_nil))) pa_nil)) (nomark _)) (pss_one (ps_ret pe_bl)) pss_nil, fun i D σ H hA kk => ?_⟩
  obtain ⟨k, l, f, p, q, xs, c, hl, v7⟩ := hA
  have sm0 := sm_shape c.k2 c.fl hl.2.1
  have sm : Sm 3 6002 (.list [dShape (Sh.shp k f l), dShape (Sh.shp k f l)]) := Sm.two sm0 sm0
  refine ⟨_, c.v2, _, v7, _, c.v4, Sh.shp k f l, ⟨k, f, l, rfl, c.k2, c.k8, c.fl, by omega, rfl⟩, fun r1 ys1 H1 hr1 e1 h1 hP1 => ?_⟩
  refine ⟨_, c.v4, _, v7, _, c.v2, Sh.shp k f l, ⟨k, f, l, rfl, c.k2, c.k8, c.fl, by omega, rfl⟩, fun r2 ys2 H2 hr2 e2 h2 hP2 => ?_⟩
  refine ⟨by show 2 ≤ sizeLine; decide, fun r3 hr3 => ?_⟩
  have e3 := Ex.new hr3 (o := .lst [V.ref r1, V.ref r2])
  refine ⟨_, .list [dShape (Sh.shp k f l), dShape (Sh.shp k f l)], rfl, .lst (SqL.of upd_same) (.cons (dpShape (SqT.of ((e2.trans e3) _ _ h1)) (hP1.ex (e2.trans e3)).s) (.cons (dpShape (SqT.of (e3 _ _ h2)) (hP2.ex e3).s) .nil)), rfl, sm.sh, sm.nd, sm.d60 (by decide), sm.len (by decide), ?_⟩
  have e13 := (e1.trans e2).trans e3
  have c3 := c.ex e13
  refine ⟨_, c.v3, _, c.v3, by show 2 ≤ sizeLine; decide, fun r4 hr4 => ?_⟩
  have e4 := Ex.new hr4 (o := .lst [V.ref q, V.ref q])
  have c4 := c3.ex e4
  refine ⟨_, .list [dShape (Sh.shp k f l), dShape (Sh.shp k f l)], rfl, .lst (SqL.of upd_same) (.cons (dpShape (SqT.of c4.hq) c4.pr.s) (.cons (dpShape (SqT.of c4.hq) c4.pr.s) .nil)), rfl, sm.sh, sm.nd, sm.d60 (by decide), sm.len (by decide), ?_⟩
  refine ⟨rfl, _, rfl, ite2 (fun z => absurd z (by simp)) fun _ => ?_⟩
  exact kk _ _ ⟨k, l, f, p, q, xs, c4, hl, v7⟩
theorem ti_is (hr : Room 8 (LX P w K mg base fa cdv s0 H0).A) (C : Cal0 P w K mg base "is_shape" ["keep", "laid", "value"] sIsShape 6 (spIsShape K T) fIS dIS) : Ti (LX P w K mg base fa cdv s0 H0) (forS 6) (B3 K T a ns) (B3 K T a ns) := by
  refine ⟨_, ps_if (pt_cmpR op_isnot_bl (pe_call C.ok (hr.mono (by decide)) (by rfl) C.ns.mg C.ns.fn.kp C.ns.bd .nil pass0 (pa_cons (pv 2) (pa_cons (pv 4) (pa_cons (pv 3) pa_nil)))) pe_bl (nomark _)) (pss_one (ps_ret pe_bl)) pss_nil, fun i D σ H hA kk => ?_⟩
  obtain ⟨k, l, f, p, q, xs, c, hl, v7⟩ := hA
  refine ⟨_, c.v2, _, c.v4, _, c.v3, k, f, l, .ref q, rfl, c.k2, c.k8, c.fl, by omega, c.shin, c.hs.tab, fun H1 e1 => ?_⟩
  refine ⟨true, true, rfl, rfl, _, rfl, ite2 (fun z => absurd z (by decide)) fun _ => ?_⟩
  exact kk _ _ ⟨k, l, f, p, q, xs, c.step (c.hs.exT e1), hl, v7⟩
end
end K10

set_option Elab.async false
set_option linter.all false
set_option maxRecDepth 100000
set_option maxHeartbeats 4000000
namespace Sh
open PySem PyProof.Rows
theorem nodup_le : ∀ {l m : List Int}, l.Nodup → (∀ x ∈ l, x ∈ m) → l.length ≤ m.length
  | [], _, _, _ => Nat.zero_le _
  | x :: l, m, hn, h => by
    have hx := h x (List.mem_cons_self ..)
    have n2 := List.nodup_cons.mp hn
    have ih := nodup_le (l := l) (m := m.erase x) n2.2 fun y hy => (List.mem_erase_of_ne (fun e => n2.1 (by rw [← e]; exact hy))).mpr (h y (List.mem_cons_of_mem _ hy))
    rw [List.length_erase_of_mem hx] at ih
    have : 0 < m.length := List.length_pos_of_mem hx
    rw [List.length_cons]
    omega
theorem met_nodup (val : Nat → Int) : ∀ i, (firstMet val i).Nodup
  | 0 => by rw [firstMet_zero]; exact List.nodup_nil
  | i + 1 => by
    rw [firstMet_succ]
    unfold step_dedup
    split
    · exact met_nodup val i
    · rename_i h
      refine List.nodup_append.mpr ⟨met_nodup val i, by simp, fun a ha b hb e => h ?_⟩
      rw [List.mem_singleton] at hb
      rw [List.any_eq_true]
      exact ⟨a, ha, by rw [e, hb]; simp⟩
theorem met_mem (val : Nat → Int) (i : Nat) (k : Int) : k ∈ firstMet val i ↔ ∃ j, j < i ∧ val j = k := by
  have h := firstMet_any val i k
  constructor
  · intro m
    have z : (firstMet val i).any (· == k) = true := List.any_eq_true.mpr ⟨k, m, by simp⟩
    rw [h] at z
    obtain ⟨x, hx, e⟩ := List.any_eq_true.mp z
    obtain ⟨j, hj, rfl⟩ := List.mem_map.mp hx
    exact ⟨j, List.mem_range.mp hj, by simpa using e⟩
  · rintro ⟨j, hj, e⟩
    have z : ((List.range i).map val).any (· == k) = true := List.any_eq_true.mpr ⟨val j, List.mem_map.mpr ⟨j, List.mem_range.mpr hj, rfl⟩, by simp [e]⟩
    rw [← h] at z
    obtain ⟨x, hx, e2⟩ := List.any_eq_true.mp z
    have e3 : x = k := by simpa using e2
    rw [← e3]
    exact hx
/-- as many sizes as counts -/
theorem met_sizes {k f l : Nat} (hk : 2 ≤ k) : (firstMet (fun i => ((shp k f l).map fun p => (p.2 : Int)).getD i 0) (shp k f l).length).length = (counts k (l - f)).length := by
  have hp : ∀ i, i < (counts k (l - f)).length → ∃ p ∈ shp k f l, p.2 = 2 ^ i := fun i hi => by
    have h0 : 0 < l - f := by
      rcases Nat.eq_zero_or_pos (l - f) with z | z
      · rw [z, counts_zero] at hi
        exact absurd hi (Nat.not_lt_zero _)
      · exact z
    have c1 := val_pos (counts_val hk _ h0) hk i hi
    have c2 := count_sh (counts k (l - f)) 1 f i (by decide) hi
    have c3 : 0 < ((sh f (counts k (l - f)) 1).filter fun p => decide (p.2 = 1 * 2 ^ i)).length := by omega
    obtain ⟨p, hp⟩ := List.exists_mem_of_length_pos c3
    rw [List.mem_filter] at hp
    exact ⟨p, hp.1, by have := of_decide_eq_true hp.2; omega⟩
  have hq : ∀ p ∈ shp k f l, ∃ i, i < (counts k (l - f)).length ∧ p.2 = 2 ^ i := fun p h => by
    obtain ⟨i, h1, h2⟩ := size_in _ _ _ _ h
    exact ⟨i, h1, by omega⟩
  have val_at : ∀ j, (h : j < (shp k f l).length) → ((shp k f l).map fun p => (p.2 : Int)).getD j 0 = ((shp k f l)[j].2 : Int) := fun j h => by
    rw [List.getD_eq_getElem?_getD, List.getElem?_map, List.getElem?_eq_getElem h]
    rfl
  refine Nat.le_antisymm ?_ ?_
  · have := nodup_le (m := (List.range (counts k (l - f)).length).map fun i => ((2 ^ i : Nat) : Int)) (met_nodup (fun i => ((shp k f l).map fun p => (p.2 : Int)).getD i 0) (shp k f l).length) fun x hx => by
      obtain ⟨j, hj, rfl⟩ := (met_mem _ _ _).mp hx
      obtain ⟨i, hi, e⟩ := hq _ (List.getElem_mem hj)
      refine List.mem_map.mpr ⟨i, List.mem_range.mpr hi, ?_⟩
      show _ = ((shp k f l).map fun p => (p.2 : Int)).getD j 0
      rw [val_at j hj, e]
    rw [List.length_map, List.length_range] at this
    exact this
  · have nd : ((List.range (counts k (l - f)).length).map fun i => ((2 ^ i : Nat) : Int)).Nodup := by
      refine List.pairwise_map.mpr (List.Pairwise.imp ?_ List.nodup_range)
      intro i j hij e
      refine hij ?_
      have e2 : 2 ^ i = 2 ^ j := Int.ofNat.inj e
      exact (Nat.pow_right_inj (by decide)).mp e2
    have := nodup_le (m := firstMet (fun i => ((shp k f l).map fun p => (p.2 : Int)).getD i 0) (shp k f l).length) nd fun x hx => by
      obtain ⟨i, hi, rfl⟩ := List.mem_map.mp hx
      obtain ⟨p, h1, h2⟩ := hp i (List.mem_range.mp hi)
      obtain ⟨j, hj, rfl⟩ := List.getElem_of_mem h1
      refine (met_mem _ _ _).mpr ⟨j, hj, ?_⟩
      show ((shp k f l).map fun p => (p.2 : Int)).getD j 0 = _
      rw [val_at j hj, h2]
    rw [List.length_map, List.length_range] at this
    exact this
end Sh

set_option Elab.async false
set_option linter.all false
set_option maxRecDepth 100000
set_option maxHeartbeats 4000000
namespace K10
open PySem PySem.Spec PyProof.Rows L2 GxR Pu Evl
section
variable {P : Program} {w : World} {K : PySem.W.Frag} {mg : Str → Option Value} {base : Heap} {T a fa : Addr} {ns : List Int} {cdv : Value} {s0 : Shared} {H0 : Hp} {k l f : Nat} {p q : Addr} {xs : List V} {σ : L2.St} {H H' : Hp}
variable {fBox fTake fPick fCO fSh fIS fFO fLS fLG fSA fFB : Addr} {dBox dTake dPick dCO dSh dIS dFO dLS dLG dSA dFB : FuncData}
theorem wipe2 {σ : L2.St} {i j : Nat} {x y : Option V} (h : i ≠ j) : wipe (((wipe σ [i, j]).set i x).set j y) [i, j] = wipe σ [i, j] := by
  show (((((σ.set j none).set i none).set i x).set j y).set j none).set i none = (σ.set j none).set i none
  rw [List.set_set, List.set_set, List.set_comm _ _ h, List.set_set, List.set_set]
def szI (L : List (Nat × Nat)) : List Int := L.map fun p => (p.2 : Int)
/-- the sizes are told -/
def B4 (K : PySem.W.Frag) (T a : Addr) (ns : List Int) (i : Nat) (σ : L2.St) (H : Hp) : Prop := ∃ k l f p q xs, ∃ z : Addr, Ctx K T a ns k l f p q xs σ H ∧ (1 ≤ l ∧ l ≤ 300 ∧ l ≤ 5 * i + 5 ∧ i < 60) ∧ σ[7]? = some (some (.int f)) ∧ σ[12]? = some (some (.ref z)) ∧ H z = some (.lst ((szI (Sh.shp k f l)).map V.int))
def B5 (K : PySem.W.Frag) (T a : Addr) (ns : List Int) (i : Nat) (σ : L2.St) (H : Hp) : Prop := ∃ k l f p q xs, ∃ t : Addr, Ctx K T a ns k l f p q xs σ H ∧ (1 ≤ l ∧ l ≤ 300 ∧ l ≤ 5 * i + 5 ∧ i < 60) ∧ σ[7]? = some (some (.int f)) ∧ σ[13]? = some (some (.ref t)) ∧ H t = some (.tup (natsV (Sh.counts k (l - f))))
def B6 (K : PySem.W.Frag) (T a : Addr) (ns : List Int) (i : Nat) (σ : L2.St) (H : Hp) : Prop := ∃ k l f p q xs, ∃ t : Addr, Ctx K T a ns k l f p q xs σ H ∧ (1 ≤ l ∧ l ≤ 300 ∧ l ≤ 5 * i + 5 ∧ i < 60) ∧ σ[7]? = some (some (.int f)) ∧ σ[13]? = some (some (.ref t)) ∧ H t = some (.tup (natsV (Sh.counts k (l - f)))) ∧ σ[14]? = some (some (.int ((l - f : Nat) : Int)))
theorem ti_sizes : Ti (LX P w K mg base fa cdv s0 H0) (forS 7) (B3 K T a ns) (B4 K T a ns) := by
  refine ⟨_, ps_set (i := 12) scLaw.nd rfl (.inr rfl) (pe_lc (own := [("_law_place", 19), ("_law_size", 18)]) (g := gSeq K 2 (gCons (gName 19) (gCons (gName 18) gNil))) (te := tVar 18) (by rfl) scLaw.nd (pi_seq (pv 3)) (blkOk_by (own := [("_law_place", 19), ("_law_size", 18)]) (N := lawN) (sc := defScope sLaw) (by decide +kernel))
      (fun _ _ _ _ _ => pg_seq rfl (pgs_cons (pg_name (i := 19) scLaw.nd rfl (.inl rfl)) (pgs_cons (pg_name (i := 18) scLaw.nd rfl (.inl rfl)) pgs_nil))) (fun _ _ _ _ _ => pts_nil) (fun _ _ _ _ _ => pv 18)), fun i D σ H hA kk => ?_⟩
  obtain ⟨k, l, f, p, q, xs, c, hl, v7⟩ := hA
  have hxl := c.hx
  have hll := c.hl
  refine ⟨.ref q, c.v3, q, xs, rfl, .inl (SqT.of c.hq), fun J Gd wk hG D' hD => ?_⟩
  refine lc_gen wk (fun m H' acc => acc = (szI ((Sh.shp k f l).take m)).map V.int) (by omega) hD (fun m H xs ys acc h r => r) rfl hG ?_ ?_
  · intro m x Ha Hb acc hi ex y hR Qy Qn hy hn
    obtain ⟨rfl, hx⟩ := y
    obtain ⟨p1, hpL, e, rfl, he⟩ := Paired.at c.pr hx
    have tk : (Sh.shp k f l).take (m + 1) = (Sh.shp k f l).take m ++ [p1] := by rw [List.take_add_one, hpL]; rfl
    refine ⟨e, _, rfl, .inl (SqT.of (ex _ _ he)), rfl, _, _, rfl, _, _, rfl, rfl, wipe2 (by decide), yes_then ⟨_, sl_eq (by show 18 < (((σ.set 18 none).set 19 none).set 19 _).length; rw [List.length_set, List.length_set, List.length_set, c.len]; decide), hy _ _ (Ex.refl _) ?_⟩⟩
    rw [tk, hR]
    unfold szI
    rw [List.map_append, List.map_append]
    rfl
  · intro H4 acc e4 hD4 hR
    rw [← hxl, List.take_length] at hR
    exact kk _ _ ⟨k, l, f, p, q, xs, D', (c.ex e4).set (by decide), hl, sl_ne v7 (by decide), sl_eq (by rw [c.len]; decide), by rw [hD4, hR]⟩
def cnt (j : Nat) (L : List (Nat × Nat)) : List V := (L.filter fun p => decide (p.2 = 1 * 2 ^ j)).map fun p => V.int (p.2 : Nat)
theorem cnt_snoc (j : Nat) (L : List (Nat × Nat)) (p : Nat × Nat) : cnt j (L ++ [p]) = if p.2 = 1 * 2 ^ j then cnt j L ++ [V.int (p.2 : Nat)] else cnt j L := by
  unfold cnt
  rw [List.filter_append, List.filter_cons]
  by_cases h : p.2 = 1 * 2 ^ j
  · rw [if_pos h, if_pos (by simpa using h)]
    simp
  · rw [if_neg h, if_neg (by simpa using h)]
    simp
/-- len(x) -/
def rLen (K : PySem.W.Frag) (ys : List V) (H : Hp) (Q : VK) : Prop := ∃ x n, ys = [x] ∧ LenV K x H n ∧ Q (.int n) H
theorem ti_counts (hr : Room 8 (LX P w K mg base fa cdv s0 H0).A) (G : Mg mg) : Ti (LX P w K mg base fa cdv s0 H0) (forS 8) (B4 K T a ns) (B5 K T a ns) := by
  refine ⟨_, ps_set (i := 13) scLaw.nd rfl (.inl rfl) (pe_callTy call_tuple_of (by rfl) G.tuple (by decide +kernel) (pa_cons
    (pe_lc (own := [("_law_at", 20)]) (te := tCB (rLen K) (tCons (tLc (iSeq K (tVar 12)) (gName 17) (tTest (tOp rEq (tVar 17) (tOp (rI CPow fun i j => .int (i * 2 ^ j.toNat)) (tC (.int 1)) (tVar 20)))) (tVar 17) [17]) tNil)) (by rfl) scLaw.nd
      (pi_range1 (by rfl) G.range (pa_cons (pe_lenSet (by rfl) G.len (by rfl) G.set (pv 12)) pa_nil)) (blkOk_by (own := [("_law_at", 20)]) (N := lawN) (sc := defScope sLaw) (by decide +kernel))
      (fun _ _ _ _ _ => pg_name (i := 20) scLaw.nd rfl (.inr rfl)) (fun _ _ _ _ _ => pts_nil)
      (fun _ _ _ _ _ => pe_callB call_len (by rfl) G.len boot_len (pa_cons (pe_lc (own := [("_law_one", 17)]) (te := tVar 17) (tt := tTest (tOp rEq (tVar 17) (tOp (rI CPow fun i j => .int (i * 2 ^ j.toNat)) (tC (.int 1)) (tVar 20)))) (by rfl) scLaw.nd (pi_seq (pv 12))
          (blkOk_by (own := [("_law_one", 17)]) (N := lawN) (sc := { kind := .function, names := [(".0", .local), ("_law_at", .cell), ("len", .globalImplicit), ("_law_sizes", .cell)], isGenerator := false, isCoroutine := false }) (by decide +kernel))
          (fun _ _ _ _ _ => pg_name (i := 17) scLaw.nd rfl (.inl rfl)) (fun _ _ _ _ _ => pts_one (pt_cmpR op_eq (pv 17) (pe_op op_shl pe_int (pv 20)) (nomark _))) (fun _ _ _ _ _ => pv 17)) pa_nil))) pa_nil)), fun i D σ H hA kk => ?_⟩
  obtain ⟨k, l, f, p, q, xs, z, c, hl, v7, v12, hz⟩ := hA
  have hxl : (szI (Sh.shp k f l)).length = (Sh.shp k f l).length := List.length_map ..
  have hll := c.hl
  obtain ⟨cs, hcs⟩ : ∃ cs, cs = Sh.counts k (l - f) := ⟨_, rfl⟩
  have em : (PyProof.Rows.firstMet (fun i => (szI (Sh.shp k f l)).getD i 0) (szI (Sh.shp k f l)).length).length = cs.length := by
    rw [hxl, hcs]
    exact Sh.met_sizes c.k2
  have hcl : cs.length ≤ 300 := by
    have := Sh.counts_len k c.k2 (l - f)
    rw [hcs]
    omega
  refine ⟨.ref z, v12, z, szI (Sh.shp k f l), rfl, SqL.of hz, by omega, ?_⟩
  rw [em]
  refine ⟨(cs.length : Int), rfl, by omega, by omega, fun D' hD => ?_⟩
  refine lc_gen walk_range (fun j H' acc => acc = (natsV cs).take j) (by rw [Int.toNat_natCast]; omega) hD (fun m H xs ys acc h r => r) rfl (fun _ _ => True.intro) ?_ ?_
  · intro j x Ha Hb acc hj ex y hR Qy Qn hy hn
    obtain ⟨rfl, rfl⟩ := y
    have hj2 : j < cs.length := by
      rw [Int.toNat_natCast] at hj
      exact hj
    have sl2 : ∀ x : Option V, ((wipe σ [20]).set 20 x).length = 21 := fun x => by
      rw [List.length_set]
      show (σ.set 20 none).length = 21
      rw [List.length_set, c.len]
    have sl3 : ∀ x : Option V, 17 < ((wipe σ [20]).set 20 x).length := fun x => by rw [sl2]; decide
    refine ⟨wipe1, yes_then ?_⟩
    refine ⟨.ref z, wipe_ne v12 (by decide), z, (szI (Sh.shp k f l)).map V.int, rfl, .inr (SqL.of (ex _ _ hz)), fun J Gd wk hG D2 hD2 => ?_⟩
    refine lc_gen wk (fun m H' acc2 => acc2 = cnt j ((Sh.shp k f l).take m)) (by rw [List.length_map]; omega) hD2 (fun m H xs ys acc h r => r) rfl hG ?_ ?_
    · intro m x Hc Hd acc2 hm ex2 y hR2 Qy2 Qn2 hy2 hn2
      obtain ⟨rfl, hx⟩ := y
      rw [List.length_map, hxl] at hm
      have hx2 : x = V.int ((Sh.shp k f l)[m].2 : Nat) := by
        unfold szI at hx
        rw [List.getElem?_map, List.getElem?_map, List.getElem?_eq_getElem hm] at hx
        exact (Option.some.inj hx).symm
      subst hx2
      have tk : (Sh.shp k f l).take (m + 1) = (Sh.shp k f l).take m ++ [(Sh.shp k f l)[m]] := by rw [List.take_add_one, List.getElem?_eq_getElem hm]; rfl
      have pw : (1 : Int) * 2 ^ ((0 : Int) + (j : Int)).toNat = ((1 * 2 ^ j : Nat) : Int) := by
        rw [Int.zero_add, Int.toNat_natCast, Int.one_mul, Nat.one_mul]
        exact (Int.natCast_pow 2 j).symm
      refine ⟨wipe1, test_then (b := decide (V.int ((Sh.shp k f l)[m].2 : Nat) = V.int ((1 * 2 ^ j : Nat) : Int))) (et_test (ev_op (ev_var (wipe_at (sl3 _))) (ev_is (ev_op ev_c (ev_var (wipe_ne (wipe_at (by rw [c.len]; decide)) (by decide))) (rv_I ⟨by omega, by omega, by decide⟩)) (by rw [pw])) (rv_eq rfl))) (fun hb H3 e3 => ?_) fun hb H3 e3 => ?_⟩
      · have hlt : (Sh.shp k f l)[m].2 = 1 * 2 ^ j := Int.ofNat.inj (V.int.inj (of_decide_eq_true hb))
        refine ⟨_, wipe_at (sl3 _), hy2 _ _ e3 ?_⟩
        rw [tk, cnt_snoc, if_pos hlt, hR2]
      · have hlt : ¬ (Sh.shp k f l)[m].2 = 1 * 2 ^ j := fun z => of_decide_eq_false hb (by rw [z])
        refine hn2 H3 e3 ?_
        rw [tk, cnt_snoc, if_neg hlt, hR2]
    · intro H4 acc2 e4 hD4 hR2
      rw [List.length_map, hxl, List.take_length] at hR2
      refine ⟨.ref D2, acc2.length, rfl, .inl ⟨acc2, SqL.of hD4, rfl⟩, hy _ _ e4 ?_⟩
      have hcn : acc2.length = cs.getD j 0 := by
        rw [hR2]
        unfold cnt
        rw [List.length_map, hcs]
        exact Sh.count_sh _ 1 f j (by decide) (by rw [← hcs]; exact hj2)
      have hj3 : (natsV cs)[j]? = some (V.int (cs.getD j 0 : Nat)) := by
        unfold natsV
        rw [List.getElem?_map, List.getElem?_eq_getElem hj2, List.getD_eq_getElem?_getD, List.getElem?_eq_getElem hj2]
        rfl
      rw [hR, List.take_add_one, hj3, hcn]
      rfl
  · intro H4 acc e4 hD4 hR
    have hc2 : ((cs.length : Nat) : Int).toNat = (natsV cs).length := by
      unfold natsV
      rw [Int.toNat_natCast, List.length_map]
    rw [hc2, List.take_length] at hR
    refine ⟨D', acc, rfl, .inl ⟨SqL.of hD4, fun r hr => ?_⟩⟩
    refine kk _ _ ⟨k, l, f, p, q, xs, r, (c.ex (e4.trans (Ex.new hr))).set (by decide), hl, sl_ne v7 (by decide), sl_eq (by rw [c.len]; decide), ?_⟩
    rw [← hcs, ← hR]
    exact upd_same
theorem ti_many : Ti (LX P w K mg base fa cdv s0 H0) (forS 9) (B5 K T a ns) (B6 K T a ns) := by
  refine ⟨_, ps_set (i := 14) scLaw.nd rfl (.inl rfl) (pe_op op_sub (pv 4) (pv 7)), fun i D σ H hA kk => ?_⟩
  obtain ⟨k, l, f, p, q, xs, t, c, hl, v7, v13, ht⟩ := hA
  refine ⟨_, c.v4, _, v7, l, f, rfl, rfl, kk _ _ ⟨k, l, f, p, q, xs, t, c.set (by decide), hl, sl_ne v7 (by decide), sl_ne v13 (by decide), ht, ?_⟩⟩
  have em : (l : Int) - (f : Int) = ((l - f : Nat) : Int) := by have := c.fl; omega
  show (σ.set 14 (some (.int ((l : Int) - (f : Int)))))[14]? = _
  rw [em]
  exact sl_eq (by rw [c.len]; decide)
theorem ti_counted (hr : Room 8 (LX P w K mg base fa cdv s0 H0).A) (G : Mg mg) (C : Cal0 P w K mg base "counts_of" ["keep", "many"] sCountsOf 4 (spT pCounts) fCO dCO) (W : KwOk K dCO ["keep", "many"] ["many", "keep"] (perm [1, 0]) (perm [1, 0])) : Ti (LX P w K mg base fa cdv s0 H0) (forS 10) (B6 K T a ns) (B3 K T a ns) := by
  have hu : (LX P w K mg base fa cdv s0 H0).A.units + 64 < cLine := hr.units
  have hg : (LX P w K mg base fa cdv s0 H0).A.guards = some [] := rfl
  refine ⟨_, ps_if (pt_cmpR op_ne (pe_callB (cr_repr hu hg) (by rfl) G.repr boot_repr (pa_cons (pe_lst (pa_cons (pe_call C.ok (hr.mono (by decide)) (by rfl) C.ns.mg C.ns.fn.kp C.ns.bd .nil pass0 (pa_cons (pv 2) (pa_cons (pv 14) pa_nil)))
    (pa_cons (pe_callW C.ok (hr.mono (by decide)) (by rfl) C.ns.mg C.ns.fn.kp W pass0 (pk_cons (pv 14) (pk_cons (pv 2) pk_nil))) pa_nil))) pa_nil))
    (pe_callB (cr_repr hu hg) (by rfl) G.repr boot_repr (pa_cons (pe_lst (pa_cons (pv 13) (pa_cons (pv 13) pa_nil))) pa_nil)) (nomark _)) (pss_one (ps_ret pe_bl)) pss_nil, fun i D σ H hA kk => ?_⟩
  obtain ⟨k, l, f, p, q, xs, t, c, hl, v7, v13, ht, v14⟩ := hA
  have smc : Sm 1 1000 (.tuple ((Sh.counts k (l - f)).map fun (c : Nat) => PyData.int (c : Int))) := by
    refine Sm.tup (n := 0) (m := 0) (c := 1000) (fun d hd => ?_) ?_
    · obtain ⟨x, hx, rfl⟩ := List.mem_map.mp hd
      obtain ⟨j, hj, rfl⟩ := List.getElem_of_mem hx
      have := Sh.counts_le c.k2 (l - f) j
      rw [List.getD_eq_getElem?_getD, List.getElem?_eq_getElem hj] at this
      have h8 := c.k8
      have h9 : (Sh.counts k (l - f))[j] ≤ k := this
      exact Sm.int (by omega)
    · rw [List.length_map]
      have := Sh.counts_len k c.k2 (l - f)
      omega
  have dpc : ∀ {H : Hp} {t : Addr}, H t = some (.tup (natsV (Sh.counts k (l - f)))) → Dp K H (.ref t) (.tuple ((Sh.counts k (l - f)).map fun (c : Nat) => PyData.int (c : Int))) := fun {H t} h => by
    refine .tup (SqT.of h) ?_
    unfold natsV
    generalize Sh.counts k (l - f) = cs
    induction cs with
    | nil => exact .nil
    | cons c cs ih => exact .cons (.int _) ih
  have sm := Sm.two smc smc
  refine ⟨_, c.v2, _, v14, _, ⟨k, l - f, rfl, c.k2, c.k8, by omega, rfl⟩, fun r1 H1 hr1 e1 h1 => ?_⟩
  refine ⟨_, v14, _, c.v2, _, ⟨k, l - f, rfl, c.k2, c.k8, by omega, rfl⟩, fun r2 H2 hr2 e2 h2 => ?_⟩
  refine ⟨by show 2 ≤ sizeLine; decide, fun r3 hr3 => ?_⟩
  have e3 := Ex.new hr3 (o := .lst [V.ref r1, V.ref r2])
  refine ⟨_, _, rfl, .lst (SqL.of upd_same) (.cons (dpc ((e2.trans e3) _ _ h1)) (.cons (dpc (e3 _ _ h2)) .nil)), rfl, sm.sh, sm.nd, sm.d60 (by decide), sm.len (by decide), ?_⟩
  have e13 := (e1.trans e2).trans e3
  refine ⟨_, v13, _, v13, by show 2 ≤ sizeLine; decide, fun r4 hr4 => ?_⟩
  have e4 := Ex.new hr4 (o := .lst [V.ref t, V.ref t])
  have ht4 := (e13.trans e4) _ _ ht
  refine ⟨_, _, rfl, .lst (SqL.of upd_same) (.cons (dpc ht4) (.cons (dpc ht4) .nil)), rfl, sm.sh, sm.nd, sm.d60 (by decide), sm.len (by decide), ?_⟩
  refine ⟨rfl, _, rfl, ite2 (fun z => absurd z (by simp)) fun _ => ?_⟩
  exact kk _ _ ⟨k, l, f, p, q, xs, c.ex (e13.trans e4), hl, v7⟩
end
end K10

set_option Elab.async false
set_option linter.all false
set_option maxRecDepth 100000
set_option maxHeartbeats 4000000
namespace K10
open PySem PySem.Spec PyProof.Rows L2 GxR Pu Evl
section
variable {P : Program} {w : World} {K : PySem.W.Frag} {mg : Str → Option Value} {base : Heap} {T a fa : Addr} {ns : List Int} {cdv : Value} {s0 : Shared} {H0 : Hp} {k l f : Nat} {p q : Addr} {xs : List V} {σ : L2.St} {H H' : Hp}
variable {fBox fTake fPick fCO fSh fIS fFO fLS fLG fSA fFB : Addr} {dBox dTake dPick dCO dSh dIS dFO dLS dLG dSA dFB : FuncData}
def B7 (K : PySem.W.Frag) (T a : Addr) (ns : List Int) (i : Nat) (σ : L2.St) (H : Hp) : Prop := ∃ k l f p q xs, ∃ r : Nat, Ctx K T a ns k l f p q xs σ H ∧ (1 ≤ l ∧ l ≤ 300 ∧ l ≤ 5 * i + 5 ∧ i < 60) ∧ σ[7]? = some (some (.int f)) ∧ σ[15]? = some (some (.int r)) ∧ r < l
def B8 (K : PySem.W.Frag) (T a : Addr) (ns : List Int) (i : Nat) (σ : L2.St) (H : Hp) : Prop := ∃ k l f p q xs, ∃ (r : Nat) (d : Addr) (ds : List V), Ctx K T a ns k l f p q xs σ H ∧ (1 ≤ l ∧ l ≤ 300 ∧ l ≤ 5 * i + 5 ∧ i < 60) ∧ σ[7]? = some (some (.int f)) ∧ σ[15]? = some (some (.int r)) ∧ r < l ∧
  σ[9]? = some (some (.ref d)) ∧ H d = some (.lst ds) ∧ PrT H ((Sh.shp k f l).filter (hasRow r)) ds
def B9 (K : PySem.W.Frag) (T a : Addr) (ns : List Int) (i : Nat) (σ : L2.St) (H : Hp) : Prop := ∃ k l f p q xs, ∃ (r : Nat) (d : Addr) (ds : List V) (t : Addr) (v1 v2 : V), Ctx K T a ns k l f p q xs σ H ∧ (1 ≤ l ∧ l ≤ 300 ∧ l ≤ 5 * i + 5 ∧ i < 60) ∧
  σ[9]? = some (some (.ref d)) ∧ H d = some (.lst ds) ∧ PrT H ((Sh.shp k f l).filter (hasRow r)) ds ∧ σ[16]? = some (some (.ref t)) ∧ H t = some (.lst [v1, v2]) ∧ OptAt H ((Sh.shp k f l).find? (hasRow r)) v1 ∧ OptAt H ((Sh.shp k f l).find? (hasRow r)) v2
theorem ti_row (hr : Room 8 (LX P w K mg base fa cdv s0 H0).A) (C2 : Cal0 P w K mg base "_law_take" ["_law_box_here", "_law_many"] sTake 1 spTake fTake dTake) : Ti (LX P w K mg base fa cdv s0 H0) (forS 11) (B3 K T a ns) (B7 K T a ns) := by
  refine ⟨_, ps_set (i := 15) scLaw.nd rfl (.inr rfl) (pe_call C2.ok (hr.mono (by decide)) (by rfl) C2.ns.mg C2.ns.fn.kp C2.ns.bd .nil pass0 (pa_cons (pv 1) (pa_cons (pv 4) pa_nil))), fun i D σ H hA kk => ?_⟩
  obtain ⟨k, l, f, p, q, xs, c, hl, v7⟩ := hA
  refine ⟨.ref p, c.v1, _, c.v4, p, l, rfl, by omega, by omega, c.hs.box, fun r H1 hr1 e1 => ?_⟩
  exact kk _ _ ⟨k, l, f, p, q, xs, r, (c.step (c.hs.exB e1)).set (by decide), hl, sl_ne v7 (by decide), sl_eq (by rw [c.len]; decide), hr1⟩
theorem filt_snoc {r : Nat} {L : List (Nat × Nat)} {p : Nat × Nat} : (L ++ [p]).filter (hasRow r) = if hasRow r p = true then L.filter (hasRow r) ++ [p] else L.filter (hasRow r) := by
  rw [List.filter_append, List.filter_cons]
  by_cases h : hasRow r p = true
  · rw [if_pos h, if_pos h]
    rfl
  · rw [if_neg h, if_neg h]
    simp
theorem ti_due2 : Ti (LX P w K mg base fa cdv s0 H0) (forS 12) (B7 K T a ns) (B8 K T a ns) := by
  refine ⟨_, ps_setLc (i := 9) (own := [("_law_one", 17)]) (te := tVar 17) (tt := tTest (tChain (rI0 fun i j => .bl (decide (i ≤ j))) (rI0 fun i j => .bl (decide (i < j))) (tOp (rIxT K) (tVar 17) (tC (.int 0))) (tVar 15) (tOp (rI0 fun i j => .int (i + j)) (tOp (rIxT K) (tVar 17) (tC (.int 0))) (tOp (rIxT K) (tVar 17) (tC (.int 1)))))) (by rfl) scLaw.nd rfl rfl (sw_true rfl rfl rfl (by decide +kernel)) (pi_seq (pv 3)) (blkOk_by (own := [("_law_one", 17)]) (N := lawN) (sc := defScope sLaw) (by decide +kernel))
      (fun _ _ _ _ _ => pg_name (i := 17) scLaw.nd rfl (.inl rfl)) (fun _ _ _ _ _ => pts_one (pt_chain op_le op_lt (pe_ix ix_tup (pv 17) pe_int (fun _ _ => rfl)) (pv 15) (pe_op op_add (pe_ix ix_tup (pv 17) pe_int (fun _ _ => rfl)) (pe_ix ix_tup (pv 17) pe_int (fun _ _ => rfl))))) (fun _ _ _ _ _ => pv 17), fun i D σ H hA kk => ?_⟩
  obtain ⟨k, l, f, p, q, xs, r, c, hl, v7, v15, hrl⟩ := hA
  have hxl := c.hx
  have hll := c.hl
  refine ⟨.ref q, c.v3, q, xs, rfl, .inl (SqT.of c.hq), fun J Gd wk hG D' hD => ?_⟩
  refine lc_gen wk (fun m H' acc => PrT H' (((Sh.shp k f l).take m).filter (hasRow r)) acc) (by omega) hD (fun m H xs ys acc h r => r.upd h) .nil hG ?_ ?_
  · intro m x Ha Hb acc hi ex y hR Qy Qn hy hn
    obtain ⟨rfl, hx⟩ := y
    obtain ⟨p1, hpL, e, rfl, he⟩ := Paired.at c.pr hx
    have tk : (Sh.shp k f l).take (m + 1) = (Sh.shp k f l).take m ++ [p1] := by rw [List.take_add_one, hpL]; rfl
    have se : SqT K Hb e [.int (p1.1 : Nat), .int (p1.2 : Nat)] := SqT.of (ex _ _ he)
    have at17 : ∀ x : V, ((wipe σ [17]).set 17 (some x))[17]? = some (some x) := fun x => wipe_at (by rw [c.len]; decide)
    have i0 : atI [V.int (p1.1 : Nat), V.int (p1.2 : Nat)] ((0 : Nat) : Int) = some (V.int (p1.1 : Nat)) := atI_nat rfl
    have i1 : atI [V.int (p1.1 : Nat), V.int (p1.2 : Nat)] ((1 : Nat) : Int) = some (V.int (p1.2 : Nat)) := atI_nat rfl
    have yes : hasRow r p1 = true → Qy (.ref e) Hb := fun h => hy _ _ (Ex.refl _) (by
      rw [tk, filt_snoc, if_pos h]
      exact hR.snoc (ex _ _ he))
    have no : ¬ hasRow r p1 = true → Qn Hb := fun h => hn _ (Ex.refl _) (by
      rw [tk, filt_snoc, if_neg h]
      exact hR)
    refine ⟨wipe1, .ref e, at17 _, e, _, 0, _, rfl, rfl, se, i0, .int r, wipe_ne v15 (by decide), p1.1, r, rfl, rfl, ?_⟩
    refine ⟨_, rfl, ite2 (fun h1 => ?_) (fun h1 => ⟨_, rfl, ite2 (fun z => nomatch z) fun _ => no fun z => ?_⟩)⟩
    · refine ⟨.ref e, at17 _, e, _, 0, _, rfl, rfl, se, i0, .ref e, at17 _, e, _, 1, _, rfl, rfl, se, i1, p1.1, p1.2, rfl, rfl, r, (p1.1 : Int) + (p1.2 : Int), rfl, rfl, _, rfl, ite2 (fun h2 => ⟨_, at17 _, yes ?_⟩) (fun h2 => no fun z => ?_)⟩
      · have a1 := of_decide_eq_true h1
        have a2 := of_decide_eq_true h2
        unfold hasRow
        rw [decide_eq_true (by omega), decide_eq_true (by omega)]
        rfl
      · unfold hasRow at z
        rw [Bool.and_eq_true] at z
        have a2 := of_decide_eq_true z.2
        exact h2 (decide_eq_true (by omega))
    · unfold hasRow at z
      rw [Bool.and_eq_true] at z
      have a1 := of_decide_eq_true z.1
      exact h1 (decide_eq_true (by omega))
  · intro H4 acc e4 hD4 hR
    rw [← hxl, List.take_length] at hR
    exact kk _ _ ⟨k, l, f, p, q, xs, r, D', acc, (c.ex e4).set (by decide), hl, sl_ne v7 (by decide), sl_ne v15 (by decide), hrl, sl_eq (by rw [c.len]; decide), hD4, hR⟩
theorem ti_told (hr : Room 8 (LX P w K mg base fa cdv s0 H0).A) (C : Cal0 P w K mg base "span_at" ["keep", "first", "laid", "row"] sSpanAt 7 spSpan fSA dSA) (W : KwOk K dSA ["keep", "first", "laid", "row"] ["row", "laid", "first", "keep"] (perm [3, 2, 1, 0]) (perm [3, 2, 1, 0])) : Ti (LX P w K mg base fa cdv s0 H0) (forS 13) (B8 K T a ns) (B9 K T a ns) := by
  refine ⟨_, ps_set (i := 16) scLaw.nd rfl (.inl rfl) (pe_lst (pa_cons (pe_call C.ok (hr.mono (by decide)) (by rfl) C.ns.mg C.ns.fn.kp C.ns.bd .nil pass0 (pa_cons (pv 2) (pa_cons (pv 7) (pa_cons (pv 4) (pa_cons (pv 15) pa_nil)))))
    (pa_cons (pe_callW C.ok (hr.mono (by decide)) (by rfl) C.ns.mg C.ns.fn.kp W pass0 (pk_cons (pv 15) (pk_cons (pv 4) (pk_cons (pv 7) (pk_cons (pv 2) pk_nil))))) pa_nil))), fun i D σ H hA kk => ?_⟩
  obtain ⟨k, l, f, p, q, xs, r, d, ds, c, hl, v7, v15, hrl, v9, hd, hP⟩ := hA
  refine ⟨_, c.v2, _, v7, _, c.v4, _, v15, k, f, l, r, rfl, c.k2, c.k8, c.fl, by omega, hrl, fun v1 H1 e1 o1 => ?_⟩
  refine ⟨_, v15, _, c.v4, _, v7, _, c.v2, k, f, l, r, rfl, c.k2, c.k8, c.fl, by omega, hrl, fun v2 H2 e2 o2 => ?_⟩
  refine ⟨by show 2 ≤ sizeLine; decide, fun t ht => ?_⟩
  have e3 := Ex.new ht (o := .lst [v1, v2])
  have e := (e1.trans e2).trans e3
  exact kk _ _ ⟨k, l, f, p, q, xs, r, d, ds, t, v1, v2, (c.ex e).set (by decide), hl, sl_ne v9 (by decide), e _ _ hd, hP.ex e, sl_eq (by rw [c.len]; decide), upd_same, o1.ex (e2.trans e3), o2.ex e3⟩
def dOpt : Option (Nat × Nat) → PyData
  | none => .none
  | some p => dPair p
theorem dpOpt {o : Option (Nat × Nat)} {v : V} (h : OptAt H o v) : Dp K H v (dOpt o) := by
  cases o with
  | none =>
    have e : v = .non := h
    subst e
    exact .non
  | some p =>
    obtain ⟨b, rfl, hb⟩ := h
    exact .tup (SqT.of hb) (.cons (.int _) (.cons (.int _) .nil))
theorem list_shaped (L : List (Nat × Nat)) : SeqAt.shaped (.list (L.map dPair)) = true := by
  have h1 : PyData.canLay0 (.list (L.map dPair)) = true := pairs_lay L
  have h2 : PyData.depth (.list (L.map dPair)) ≤ 64 := by
    show PyData.depthAll (L.map dPair) + 1 ≤ 64
    have := pairs_depth L
    omega
  unfold SeqAt.shaped
  rw [h1, decide_eq_true h2]
  rfl
theorem one_cb {r : List V → Hp → VK → Prop} {te : TE} {Q : VK} (h : te σ H fun x H1 => r [x] H1 Q) : tCB r (tCons te tNil) σ H Q := h
theorem op_step {r : R2} {ta tb : TE} {Q : VK} (h : ta σ H fun x H1 => tb σ H1 fun y H2 => r x y H2 Q) : tOp r ta tb σ H Q := h
theorem lst_one {te : TE} {Q : VK} (h : te σ H fun x H1 => 1 ≤ sizeLine ∧ ∀ p, H1 p = none → Q (.ref p) (upd H1 p (.lst [x]))) : tLst (tCons te tNil) σ H Q := h
theorem due_pick {d : Addr} {ds : List V} {L : List (Nat × Nat)} (v9 : σ[9]? = some (some (.ref d))) (hd : H d = some (.lst ds)) (hP : PrT H L ds) {C : VK} (k : ∀ v H3, Ex H H3 → OptAt H3 L.head? v → C v H3) :
    tIf (tTest (tOp (rNeD K) (tVar 9) (tLst tNil))) (tOp (rIxL K) (tVar 9) (tC (.int 0))) (tC .non) σ H C := by
  refine ⟨.ref d, v9, by show 0 ≤ sizeLine; decide, fun r hr => ?_⟩
  have e1 := Ex.new (H := H) (o := .lst []) hr
  have hd1 := e1 _ _ hd
  have hP1 := hP.ex e1
  refine ⟨.list (L.map dPair), .list [], .lst (SqL.of hd1) (dpPairs hP1.s), .lst (SqL.of upd_same) .nil, list_shaped _, rfl, _, rfl, ?_⟩
  cases hP1 with
  | nil => exact ite2 (fun z => absurd z (by decide)) fun _ => k _ _ e1 rfl
  | @cons p1 v L ds r1 t =>
    obtain ⟨e, rfl, he⟩ := r1
    refine ite2 (fun _ => ?_) fun z => absurd rfl z
    have i0 : atI (V.ref e :: ds) ((0 : Nat) : Int) = some (V.ref e) := atI_nat rfl
    exact ⟨.ref d, v9, d, _, 0, _, rfl, rfl, SqL.of hd1, i0, k _ _ e1 ⟨e, rfl, he⟩⟩
theorem ti_end (hr : Room 8 (LX P w K mg base fa cdv s0 H0).A) (G : Mg mg) : Ti (LX P w K mg base fa cdv s0 H0) (forS 14) (B9 K T a ns) (B2 K T a ns) := by
  have hu : (LX P w K mg base fa cdv s0 H0).A.units + 64 < cLine := hr.units
  have hg : (LX P w K mg base fa cdv s0 H0).A.guards = some [] := rfl
  refine ⟨_, ps_if (pt_cmpR op_ne (pe_callB (cr_repr hu hg) (by rfl) G.repr boot_repr (pa_cons (pv 16) pa_nil))
    (pe_callB (cr_repr hu hg) (by rfl) G.repr boot_repr (pa_cons (pe_op op_rep (pe_lst (pa_cons (pe_ifExp (pt_cmpR (op_neD hu) (pv 9) (pe_lst pa_nil) (nomark _)) (pe_ix ix_list (pv 9) pe_int (fun _ _ => rfl)) pe_non) pa_nil)) pe_int) pa_nil)) (nomark _)) (pss_one (ps_ret pe_bl)) pss_nil, fun i D σ H hA kk => ?_⟩
  obtain ⟨k, l, f, p, q, xs, r, d, ds, t, v1, v2, c, hl, v9, hd, hP, v16, ht, o1, o2⟩ := hA
  have hf : ((Sh.shp k f l).filter (hasRow r)).head? = (Sh.shp k f l).find? (hasRow r) := List.head?_filter ..
  obtain ⟨o, ho⟩ : ∃ o, o = (Sh.shp k f l).find? (hasRow r) := ⟨_, rfl⟩
  rw [← ho] at o1 o2 hf
  have so : Sm 1 2 (dOpt o) := by
    cases o with
    | none => exact Sm.none.mono (by decide) (by decide)
    | some p1 =>
      have := Sh.shp_mem c.k2 c.fl (List.mem_of_find?_eq_some ho.symm)
      exact Sm.pair (by omega)
  have sm := Sm.two so so
  refine ⟨_, v16, _, .list [dOpt o, dOpt o], rfl, .lst (SqL.of ht) (.cons (dpOpt o1) (.cons (dpOpt o2) .nil)), rfl, sm.sh, sm.nd, sm.d60 (by decide), sm.len (by decide), ?_⟩
  refine one_cb (op_step (lst_one (due_pick v9 hd hP fun v H3 e3 o3 => ?_)))
  rw [hf] at o3
  refine ⟨by show 1 ≤ sizeLine; decide, fun r1 hr1 => ⟨r1, 2, [v], rfl, rfl, upd_same, by decide, by decide, by show 2 ≤ sizeLine; decide, fun r2 hr2 => ?_⟩⟩
  have e4 := Ex.new hr1 (o := .lst [v])
  have e5 := Ex.new hr2 (o := .lst [v, v])
  have o5 := o3.ex (e4.trans e5)
  refine ⟨_, .list [dOpt o, dOpt o], rfl, .lst (SqL.of (show upd (upd H3 r1 (.lst [v])) r2 (.lst [v, v]) r2 = some (.lst [v, v]) from upd_same)) (.cons (dpOpt o5) (.cons (dpOpt o5) .nil)), rfl, sm.sh, sm.nd, sm.d60 (by decide), sm.len (by decide), ?_⟩
  refine ⟨rfl, _, rfl, ite2 (fun z => absurd z (by simp)) fun _ => ?_⟩
  exact kk _ _ ⟨k, l, f, p, q, xs, c.ex ((e3.trans e4).trans e5), hl⟩
end
end K10

set_option Elab.async false
set_option linter.all false
set_option maxRecDepth 100000
set_option maxHeartbeats 4000000
namespace K10
open PySem PySem.Spec PyProof.Rows L2 GxR Pu Evl
def Fx (K : PySem.W.Frag) (mg : Str → Option Value) (x : Str) (ps : List Str) (st : Stmt) : Prop := ∃ f fd, Fns K mg x ps st f fd
def Fk (K : PySem.W.Frag) (mg : Str → Option Value) (x : Str) (ps : List Str) (st : Stmt) (ks : List Str) (is : List Nat) : Prop := ∃ f fd, Fns K mg x ps st f fd ∧ KwOk K fd ps ks (perm is) (perm is)
/-- all that the text must hold -/
structure AllF (K : PySem.W.Frag) (mg : Str → Option Value) (c : Addr) : Prop where
  g : Mg mg
  int : Fx K mg "is_integer" ["value"] sIsInteger
  num : Fx K mg "is_number" ["value"] sIsNumber
  seq : Fx K mg "is_sequence" ["value"] sIsSequence
  par : Fx K mg "is_of_parts" ["value", "many"] sIsOfParts
  nn : Fx K mg "need_number" ["value"] sNeedNumber
  ik : Fx K mg "is_keep" ["value"] sIsKeep
  nk : Fx K mg "need_keep" ["keep"] sNeedKeep
  co : Fk K mg "counts_of" ["keep", "many"] sCountsOf ["many", "keep"] [1, 0]
  sf : Fx K mg "shape_from" ["keep", "first", "laid"] sShapeFrom
  nr : Fx K mg "need_rows" ["first", "laid"] sNeedRows
  sh : Fk K mg "shape" ["keep", "first", "laid"] sShape ["laid", "first", "keep"] [2, 1, 0]
  st : Fx K mg "is_stretch" ["value"] sIsStretch
  is : ∃ f fd, FunC K "is_shape" "is_shape" sIsShape f fd c ∧ Binds K fd ["keep", "laid", "value"] [] ∧ mg "is_shape" = some (.ref f)
  fo : Fk K mg "first_of" ["some", "laid"] sFirstOf ["laid", "some"] [1, 0]
  ls : Fk K mg "lay_shape" ["laid", "some", "keep"] sLayShape ["keep", "some", "laid"] [2, 1, 0]
  lg : Fk K mg "let_go_shape" ["some", "below"] sLetGo ["below", "some"] [1, 0]
  sa : Fk K mg "span_at" ["keep", "first", "laid", "row"] sSpanAt ["row", "laid", "first", "keep"] [3, 2, 1, 0]
  fb : Fk K mg "first_behind" ["keep", "first", "laid", "below"] sFirstBehind ["below", "laid", "first", "keep"] [3, 2, 1, 0]
  box : Fx K mg "_law_box" ["_law_script", "_law_k"] sBox
  take : Fx K mg "_law_take" ["_law_box_here", "_law_many"] sTake
  pick : Fx K mg "_law_pick" ["_law_box_here", "_law_some"] sPick
section
variable {P : Program} {w : World} {K : PySem.W.Frag} {mg : Str → Option Value} {base : Heap} {T a fa : Addr} {ns : List Int} {cdv : Value} {s0 : Shared} {H0 : Hp}
variable {fBox fTake fPick : Addr} {dBox dTake dPick : FuncData}
def S0 (K : PySem.W.Frag) (T a : Addr) (ns : List Int) (_ : Nat) (σ : L2.St) (H : Hp) : Prop := σ.length = 21 ∧ σ[0]? = some (some (.ref a)) ∧ TabG H T ∧ SqL K H a (ns.map V.int)
def S1 (K : PySem.W.Frag) (T a : Addr) (ns : List Int) (_ : Nat) (σ : L2.St) (H : Hp) : Prop := ∃ p, σ.length = 21 ∧ σ[0]? = some (some (.ref a)) ∧ σ[1]? = some (some (.ref p)) ∧ Hs K T a ns p H
def S2 (K : PySem.W.Frag) (T a : Addr) (ns : List Int) (_ : Nat) (σ : L2.St) (H : Hp) : Prop := ∃ p, ∃ k : Nat, σ.length = 21 ∧ σ[0]? = some (some (.ref a)) ∧ σ[1]? = some (some (.ref p)) ∧ Hs K T a ns p H ∧ σ[2]? = some (some (.int k)) ∧ 2 ≤ k ∧ k ≤ 8
def S3 (K : PySem.W.Frag) (T a : Addr) (ns : List Int) (_ : Nat) (σ : L2.St) (H : Hp) : Prop := ∃ k l f p q xs, Ctx K T a ns k l f p q xs σ H ∧ l ≤ 0
theorem st0 (hr : Room 8 (LX P w K mg base fa cdv s0 H0).A) (C : Cal0 P w K mg base "_law_box" ["_law_script", "_law_k"] sBox 1 (spBox K ns) fBox dBox) (hn : ns.length ≤ 100) : Ti (LX P w K mg base fa cdv s0 H0) (lawS 0) (S0 K T a ns) (S1 K T a ns) := by
  refine ⟨_, ps_set (i := 1) scLaw.nd rfl (.inl rfl) (pe_call C.ok (hr.mono (by decide)) (by rfl) C.ns.mg C.ns.fn.kp C.ns.bd .nil pass0 (pa_cons (pv 0) (pa_cons pe_int pa_nil))), fun i D σ H hA k => ?_⟩
  obtain ⟨len, v0, tab, hs⟩ := hA
  exact ⟨_, v0, a, 0, rfl, hs, hn, by omega, fun p H' hp e hb => k _ _ ⟨p, by rw [List.length_set]; exact len, sl_ne v0 (by decide), sl_eq (by rw [len]; decide), Hs.ofNew tab hs hp e hb⟩⟩
theorem st1 (hr : Room 8 (LX P w K mg base fa cdv s0 H0).A) (C1 : Cal0 P w K mg base "_law_pick" ["_law_box_here", "_law_some"] sPick 2 spPick fPick dPick) : Ti (LX P w K mg base fa cdv s0 H0) (lawS 1) (S1 K T a ns) (S2 K T a ns) := by
  refine ⟨_, ps_set (i := 2) scLaw.nd rfl (.inl rfl) (pe_op op_add pe_int (pe_call C1.ok (hr.mono (by decide)) (by rfl) C1.ns.mg C1.ns.fn.kp C1.ns.bd .nil pass0 (pa_cons (pv 1) (pa_cons (pe_lst (pa_cons pe_int (pa_cons pe_int (pa_cons pe_int (pa_cons pe_int (pa_cons pe_int pa_nil)))))) pa_nil)))), fun i D σ H hA kk => ?_⟩
  obtain ⟨p, len, v0, v1, hs⟩ := hA
  refine ⟨.ref p, v1, by show 5 ≤ sizeLine; decide, fun r hr => ?_⟩
  have e0 := Ex.new (H := H) hr (o := .lst [V.int 0, .int 0, .int 1, .int 2, .int 6])
  have h1 := hs.step (hs.ex e0)
  obtain ⟨g, s', hbx, _⟩ := hs.box
  have hrp : r ≠ p := fun z => by rw [z, hbx] at hr; cases hr
  refine ⟨p, r, _, rfl, h1.box, upd_same, hrp, by show 1 ≤ 5; decide, by show 5 ≤ 1000; decide, fun v H1 hv e1 => ?_⟩
  obtain ⟨j, rfl, hj⟩ : ∃ j : Nat, v = .int j ∧ j ≤ 6 := by
    rcases List.mem_cons.mp hv with z | hv
    · exact ⟨0, z, by decide⟩
    · rcases List.mem_cons.mp hv with z | hv
      · exact ⟨0, z, by decide⟩
      · rcases List.mem_cons.mp hv with z | hv
        · exact ⟨1, z, by decide⟩
        · rcases List.mem_cons.mp hv with z | hv
          · exact ⟨2, z, by decide⟩
          · rcases List.mem_cons.mp hv with z | hv
            · exact ⟨6, z, by decide⟩
            · cases hv
  refine ⟨2, j, rfl, rfl, kk _ _ ⟨p, 2 + j, by rw [List.length_set]; exact len, sl_ne v0 (by decide), sl_ne v1 (by decide), h1.step (h1.exB e1), ?_, by omega, by omega⟩⟩
  have em : (2 : Int) + (j : Int) = ((2 + j : Nat) : Int) := by omega
  show (σ.set 2 (some (.int ((2 : Int) + (j : Int)))))[2]? = _
  rw [em]
  exact sl_eq (by rw [len]; decide)
theorem st2 : Ti (LX P w K mg base fa cdv s0 H0) (lawS 2) (S2 K T a ns) (S3 K T a ns) := by
  refine ⟨_, ps_asg (pe_tup (pa_cons (pe_tup pa_nil) (pa_cons pe_int pa_nil))) (pg_tup rfl (pgs_cons (pg_name (i := 3) scLaw.nd rfl (.inl rfl)) (pgs_cons (pg_name (i := 4) scLaw.nd rfl (.inl rfl)) pgs_nil))), fun i D σ H hA kk => ?_⟩
  obtain ⟨p, k, len, v0, v1, hs, v2, k2, k8⟩ := hA
  refine ⟨by show 0 ≤ sizeLine; decide, fun r hr => ⟨by show 2 ≤ sizeLine; decide, fun r2 hr2 => ?_⟩⟩
  have e1 := Ex.new (H := H) hr (o := .tup [])
  have e2 := Ex.new hr2 (o := .tup [V.ref r, .int 0])
  have h1 := hs.step (hs.ex (e1.trans e2))
  refine ⟨r2, _, rfl, SqT.of upd_same, rfl, _, _, rfl, _, _, rfl, rfl, kk _ _ ⟨k, 0, 0, p, r, [], ⟨by rw [List.length_set, List.length_set]; exact len, sl_ne (sl_ne v0 (by decide)) (by decide), sl_ne (sl_ne v1 (by decide)) (by decide), sl_ne (sl_ne v2 (by decide)) (by decide), sl_ne (sl_eq (by rw [len]; decide)) (by decide),
    sl_eq (by rw [List.length_set, len]; decide), k2, k8, Nat.le_refl 0, h1, e2 _ _ upd_same, ?_⟩, Nat.le_refl 0⟩⟩
  have z : Sh.shp k 0 0 = [] := by
    unfold Sh.shp
    rw [Nat.sub_zero, Sh.counts_zero]
    rfl
  rw [z]
  exact .nil
end
section
variable {P : Program} {w : World} {K : PySem.W.Frag} {mg : Str → Option Value} {T a fa c : Addr} {ns : List Int}
theorem body10 (F : AllF K mg c) (hn : ns.length ≤ 100) (hr9 : Room 9 callerA) : BodyOk P w K mg [(c, T)] lawN sLaw fa a ns := by
  intro base cdv s H M hTB hT hS
  have TB : TabB base mg c T := hTB (c, T) (List.mem_singleton.mpr rfl)
  have hT2 : TabG H T := ⟨#[], hT (c, T) (List.mem_singleton.mpr rfl), trivial⟩
  have hr : Room 8 (LX P w K mg base fa cdv s H).A := hr9.deeper _
  have G := F.g
  obtain ⟨fInt, dInt, xInt⟩ := F.int
  obtain ⟨fNum, dNum, xNum⟩ := F.num
  obtain ⟨fSeq, dSeq, xSeq⟩ := F.seq
  obtain ⟨fPar, dPar, xPar⟩ := F.par
  obtain ⟨fNN, dNN, xNN⟩ := F.nn
  obtain ⟨fIK, dIK, xIK⟩ := F.ik
  obtain ⟨fNK, dNK, xNK⟩ := F.nk
  obtain ⟨fCO, dCO, xCO, wCO⟩ := F.co
  obtain ⟨fSF, dSF, xSF⟩ := F.sf
  obtain ⟨fNR, dNR, xNR⟩ := F.nr
  obtain ⟨fSh, dSh, xSh, wSh⟩ := F.sh
  obtain ⟨fSt, dSt, xSt⟩ := F.st
  obtain ⟨fIS, dIS, cIS, bIS, mIS⟩ := F.is
  obtain ⟨fFO, dFO, xFO, wFO⟩ := F.fo
  obtain ⟨fLS, dLS, xLS, wLS⟩ := F.ls
  obtain ⟨fLG, dLG, xLG, wLG⟩ := F.lg
  obtain ⟨fSA, dSA, xSA, wSA⟩ := F.sa
  obtain ⟨fFB, dFB, xFB, wFB⟩ := F.fb
  obtain ⟨fBox, dBox, xBox⟩ := F.box
  obtain ⟨fTake, dTake, xTake⟩ := F.take
  obtain ⟨fPick, dPick, xPick⟩ := F.pick
  have gNN : FnOk P w K mg base CX0 3 fNN dNN ["value"] (spV pNat) := ok_need_number M G xNN.fn xNum xInt
  have gNK : FnOk P w K mg base CX0 3 fNK dNK ["keep"] (spV pKeep) := ok_need_keep M G xNK.fn xIK xInt
  have gNR : FnOk P w K mg base CX0 4 fNR dNR ["first", "laid"] (spV pRows) := ok_need_rows M G xNR.fn xNN xNum xInt
  have gSF : FnOk P w K mg base CX0 5 fSF dSF ["keep", "first", "laid"] (spSh pShape) := ok_shape_from M G xSF.fn xCO xNK xIK xInt
  have B : Base P w K mg base fNN fNK fSF fNR dNN dNK dSF dNR := ⟨gNN, gNK, gNR, gSF⟩
  have gSh : FnOk P w K mg base CX0 6 fSh dSh ["keep", "first", "laid"] (spSh pShape) := ok_shape xSh.fn B xNK xNR xSF
  have gSt : PF P w K mg base 3 fSt dSt ["value"] pStretch := pf_is_stretch M G xSt.fn xPar.fn xPar.bd xPar.mg xNum.fn xNum.bd xNum.mg xSeq.fn xSeq.bd xSeq.mg xInt.fn xInt.bd xInt.mg
  have gFO : FnOk P w K mg base CX0 1 fFO dFO ["some", "laid"] (spV (pFirst K)) := ok_first_of G xFO.fn
  have gIS : FnOk P w K mg base CX0 6 fIS dIS ["keep", "laid", "value"] (spIsShape K T) := ok_is_shape M G cIS TB B xNK xNN xSF xSeq xSt gSt xFO gFO
  have xIS : Fns K mg "is_shape" ["keep", "laid", "value"] sIsShape fIS dIS := ⟨cIS.fn, bIS, mIS⟩
  have gLS : FnOk P w K mg base CX0 7 fLS dLS ["laid", "some", "keep"] (spLay K T) := ok_lay_shape xLS.fn B xIS gIS xSF xFO gFO
  have gLG : FnOk P w K mg base CX0 4 fLG dLG ["some", "below"] (spSh (pGo K)) := ok_let_go G xLG.fn B xNN
  have gSA : FnOk P w K mg base CX0 7 fSA dSA ["keep", "first", "laid", "row"] spSpan := ok_span_at M G xSA.fn xSh gSh xNum xInt
  have gFB : FnOk P w K mg base CX0 7 fFB dFB ["keep", "first", "laid", "below"] (spV pBehind) := ok_first_behind xFB.fn xSh gSh xLG gLG xFO gFO
  have gCO : FnOk P w K mg base CX0 4 fCO dCO ["keep", "many"] (spT pCounts) := ok_counts_of M G xCO.fn xNK xIK xInt
  have gBox : FnOk P w K mg base CX0 1 fBox dBox ["_law_script", "_law_k"] (spBox K ns) := ok_box G xBox.fn
  have gTake : FnOk P w K mg base CX0 1 fTake dTake ["_law_box_here", "_law_many"] spTake := ok_take G xTake.fn
  have gPick : FnOk P w K mg base CX0 2 fPick dPick ["_law_box_here", "_law_some"] spPick := ok_pick G xPick.fn xTake
  have C2 : Cal0 P w K mg base "_law_take" ["_law_box_here", "_law_many"] sTake 1 spTake fTake dTake := ⟨xTake, gTake⟩
  have C1 : Cal0 P w K mg base "_law_pick" ["_law_box_here", "_law_some"] sPick 2 spPick fPick dPick := ⟨xPick, gPick⟩
  have body : Tis (LX P w K mg base fa cdv s H) (bodyOf (lawS 3)) (B0 K T a ns) (B2 K T a ns) :=
    Tis.cons (ti_box hr ⟨xBox, gBox⟩ hn) (Tis.cons (ti_turn hr G C1 C2 ⟨xLS, gLS⟩ wLS) (Tis.cons (ti_first (.inl rfl) hr ⟨xFO, gFO⟩) (Tis.cons (ti_if hr G C1 C2 ⟨xFB, gFB⟩ wFB ⟨xLG, gLG⟩ wLG ⟨xFO, gFO⟩ wFO) (Tis.cons (ti_first (.inr rfl) hr ⟨xFO, gFO⟩)
      (Tis.cons (ti_shape hr G ⟨xSh, gSh⟩ wSh) (Tis.cons (ti_is hr ⟨xIS, gIS⟩) (Tis.cons ti_sizes (Tis.cons (ti_counts hr G) (Tis.cons ti_many (Tis.cons (ti_counted hr G ⟨xCO, gCO⟩ wCO)
        (Tis.cons (ti_row hr C2) (Tis.cons ti_due2 (Tis.cons (ti_told hr ⟨xSA, gSA⟩ wSA) (Tis.one (ti_end hr G)))))))))))))))
  obtain ⟨tb, hb1, hb2⟩ := body
  obtain ⟨t0, p0, r0⟩ := st0 (T := T) (a := a) (fa := fa) (cdv := cdv) (s0 := s) (H0 := H) hr ⟨xBox, gBox⟩ hn
  obtain ⟨t1, p1, r1⟩ := st1 (T := T) (a := a) (ns := ns) hr C1
  obtain ⟨t2, p2, r2⟩ := st2 (P := P) (w := w) (K := K) (mg := mg) (base := base) (T := T) (a := a) (fa := fa) (ns := ns) (cdv := cdv) (s0 := s) (H0 := H)
  refine ⟨_, pss_cons p0 (pss_cons p1 (pss_cons p2 (pss_cons (ps_for PassesOwn.never rfl (pi_range2 (by rfl) G.range (pa_cons pe_int (pa_cons (pe_callB (call_max2 rfl) (by rfl) G.max boot_max (pa_cons pe_int (pa_cons (pe_callB (call_min2 rfl) (by rfl) G.min boot_min
    (pa_cons (pe_callB call_len (by rfl) G.len boot_len (pa_cons (pv 0) pa_nil)) (pa_cons pe_int pa_nil))) pa_nil))) pa_nil))) (pg_name (i := 5) scLaw.nd rfl (.inl rfl)) hb1) (pss_one (ps_ret pe_bl))))), ?_⟩
  refine r0 0 _ _ _ ⟨rfl, rfl, hT2, hS⟩ fun σ1 H1 a1 => r1 0 _ _ _ a1 fun σ2 H2 a2 => r2 0 _ _ _ a2 fun σ3 H3 a3 => ?_
  obtain ⟨k, l, f, p, q, xs, c, hl⟩ := a3
  obtain ⟨m1, hm1⟩ : ∃ m : Int, (if (60 : Int) < ((ns.map V.int).length : Int) then (60 : Int) else ((ns.map V.int).length : Int)) = m := ⟨_, rfl⟩
  obtain ⟨m, hm⟩ : ∃ m : Int, (if m1 > 24 then m1 else 24) = m := ⟨_, rfl⟩
  have hm9 : 24 ≤ m ∧ m ≤ 60 := by
    rw [← hm, ← hm1]
    split <;> split <;> omega
  refine ⟨_, c.v0, .ref a, _, rfl, .inl ⟨_, c.hs.scrL, rfl⟩, _, 60, rfl, 24, _, rfl, 1, m, ?_, ⟨by omega, by omega, by omega, by omega⟩, for_range (lo := 1) (n := (m - 1).toNat) (fun i σ H => ∃ k l f p q xs, Ctx K T a ns k l f p q xs σ H ∧ l ≤ 5 * i) ⟨k, l, f, p, q, xs, c, by omega⟩ (fun i σ' H' hi p1 => ?_) fun σ' H' p1 => rfl⟩
  · rw [← hm, ← hm1]
  · obtain ⟨k, l, f, p, q, xs, c, hl⟩ := p1
    have em : (1 : Int) + (i : Int) = ((i + 1 : Nat) : Int) := by omega
    have hi60 : i < 60 := by omega
    refine hb2 i _ _ _ ⟨k, l, f, p, q, xs, c.set (by decide), hl, hi60, ?_⟩ fun σ'' H'' b => ?_
    · rw [em]
      exact sl_eq (by rw [c.len]; decide)
    · obtain ⟨k, l, f, p, q, xs, c, h1, h2, h3, h4⟩ := b
      exact ⟨k, l, f, p, q, xs, c, by omega⟩
end
end K10

set_option Elab.async false
set_option linter.all false
set_option maxRecDepth 100000
set_option maxHeartbeats 4000000
namespace K10
open PySem PySem.Spec PyProof.Rows L2 GxR Pu Evl
/-- a def of the text -/
def DefIn (K : PySem.W.Frag) (x : Str) (st : Stmt) : Prop := ∃ (f : Addr) (oc : Value) (od : Option Addr) (kV doc pm : Value) (an : Option Addr) (cd ct : Value) (sl : Array (Option Value)),
  PySem.W.nsIn K mainGlobals x = some (some (.ref f)) ∧ K.lookup f = some ⟨oc, od, .func (PySem.W.fnOf x x (defArgs st) (defBody st) (defScope st) .none kV doc pm an cd ct), sl⟩ ∧ PySem.W.codeIn K cd x = true ∧ PySem.W.keepIn K (.ref f) = true
section
variable {K : PySem.W.Frag} {h : Heap} {mg : Str → Option Value}
theorem DefIn.fx {x : Str} {ps : List Str} {st : Stmt} (X : K.In h) (G : h.Ns mainGlobals mg) (D : DefIn K x st)
    (hb : ∀ (kV doc pm : Value) (an : Option Addr) (cdv ct : Value) (us : List Value), us.length = ps.length → bindArgs (PySem.W.fnOf x x (defArgs st) (defBody st) (defScope st) .none kV doc pm an cdv ct) ⟨us, []⟩ = pure (ps.zip us)) : Fx K mg x ps st := by
  obtain ⟨f, oc, od, kV, doc, pm, an, cd, ct, sl, h1, h2, h3, h4⟩ := D
  exact ⟨f, _, fun_mk h2 h3 h4, (fun_mk h2 h3 h4).binds hb, PySem.W.mg_of X G h1⟩
theorem DefIn.fk {x : Str} {ps ks : List Str} {is : List Nat} {st : Stmt} (X : K.In h) (G : h.Ns mainGlobals mg) (D : DefIn K x st)
    (hb : ∀ (kV doc pm : Value) (an : Option Addr) (cdv ct : Value) (us : List Value), us.length = ps.length → bindArgs (PySem.W.fnOf x x (defArgs st) (defBody st) (defScope st) .none kV doc pm an cdv ct) ⟨us, []⟩ = pure (ps.zip us))
    (hk : ∀ (kV doc pm : Value) (an : Option Addr) (cdv ct : Value) (ws : List Value), ws.length = is.length → bindArgs (PySem.W.fnOf x x (defArgs st) (defBody st) (defScope st) .none kV doc pm an cdv ct) ⟨[], ks.zip ws⟩ = pure (ps.zip (perm is ws))) (hn : 0 < ps.length) : Fk K mg x ps st ks is := by
  obtain ⟨f, oc, od, kV, doc, pm, an, cd, ct, sl, h1, h2, h3, h4⟩ := D
  exact ⟨f, _, ⟨fun_mk h2 h3 h4, (fun_mk h2 h3 h4).binds hb, PySem.W.mg_of X G h1⟩, kwOk (fun ws hl => hk _ _ _ _ _ _ ws hl) hn⟩
end
theorem walk10 {l : PySem.W.OpenLaw} {q : Program} {loose : List Str} {XP : (Str → Option Value) → Heap → Prop} {YP : World → Heap → Prop} {d d2 : DefRec} {K : Params → PySem.W.Frag} (hn : l.most = some 63) (hdf : d.params.defaults = []) (hd2 : (recsOf q).find? (fun e => e.name == ("is_shape" : Str)) = some d2)
    (hY : ∀ (w : World) (h : Heap), YP w h → (K w.params).In h)
    (F : ∀ (w : World) (mg : Str → Option Value) (fa : Addr) (h : Heap), (K w.params).In h → h.Ns mainGlobals mg → mg d.name = some (.ref fa) →
      ∃ (fd : FuncData) (c T : Addr), Fun (K w.params) "law" "law" sLaw fa fd ∧ (∀ (s : Shared) (u : Value), BindsTo s fd ⟨[u], []⟩ [("_law_script", u)]) ∧ AllF (K w.params) mg c ∧ PySem.W.tabIn (K w.params) "is_shape" = some (c, T) ∧ (K w.params).lookup T = none) :
    PySem.W.WalkO q loose XP YP l.row.toRowW d [] (fun f vs => PySem.call f vs) := by
  refine Att.attach_callB hn hdf fun w s₀ s₁ mg mb fa o pm cd doc a vs ns G Y ho hd hcd hmg hobj hints hlen hbits hg => ?_
  have KX := hY w _ Y
  obtain ⟨fd, c, T, Fn, hb, A, ht, nT⟩ := F w mg fa _ KX G.T.g hmg
  obtain ⟨C, hT⟩ := PySem.W.tab_of G.T KX hd2 ht
  have one : ∀ {Q : Addr × Addr → Prop}, Q (c, T) → ∀ p ∈ [(c, T)], Q p := fun {Q} q p hp => by rw [List.mem_singleton.mp hp]; exact q
  have hr : Room 9 callerA := ⟨rfl, by decide, by decide⟩
  exact law_end (cs := [(c, T)]) KX G.T.g G.T.b G.T.builtins G.T.nolimit hg (one ⟨⟨hT, nT⟩, C⟩) G.T.bmain hobj hints (Nat.le_trans hlen (by decide)) Fn scLaw hb hr (body10 A (by omega) hr)
end K10

set_option Elab.async false
set_option linter.all false
set_option maxRecDepth 100000
set_option maxHeartbeats 4000000
namespace K10
open PySem PySem.Spec PyProof.Rows L2 GxR Pu Evl
theorem DefIn.mk {K : PySem.W.Frag} {x : Str} {st : Stmt} {f : Addr} {oc : Value} {od : Option Addr} {kV doc pm : Value} {an : Option Addr} {cd ct : Value} {sl : Array (Option Value)}
    (h1 : PySem.W.nsIn K mainGlobals x = some (some (.ref f))) (h2 : K.lookup f = some ⟨oc, od, .func (PySem.W.fnOf x x (defArgs st) (defBody st) (defScope st) .none kV doc pm an cd ct), sl⟩) (h3 : PySem.W.codeIn K cd x = true) (h4 : PySem.W.keepIn K (.ref f) = true) : DefIn K x st :=
  ⟨f, oc, od, kV, doc, pm, an, cd, ct, sl, h1, h2, h3, h4⟩
theorem tab_mk {K : PySem.W.Frag} {x : Str} {f c T : Addr} {oc cc : Value} {od oe : Option Addr} {fd : FuncData} {vs : Array Value} {sl sm : Array (Option Value)} (h1 : PySem.W.nsIn K mainGlobals x = some (some (.ref f))) (h2 : K.lookup f = some ⟨oc, od, .func fd, sl⟩) (hc : fd.code = .ref c)
    (h3 : K.lookup c = some ⟨cc, oe, .fields vs, sm⟩) (h4 : (vs[11]? : Option Value) = some (.ref T)) : PySem.W.tabIn K x = some (c, T) := by
  unfold PySem.W.tabIn
  rw [h1]
  show (match K.lookup f with
    | some ⟨_, _, .func fd, _⟩ => _
    | _ => none) = _
  rw [h2]
  show (match fd.code with
    | .ref c => _
    | _ => none) = _
  rw [hc]
  show (match K.lookup c with
    | some ⟨_, _, .fields vs, _⟩ => _
    | _ => none) = _
  rw [h3]
  show (match (vs[11]? : Option Value) with
    | some (.ref P) => some (c, P)
    | _ => none) = _
  rw [h4]
theorem all10 {K : PySem.W.Frag} {h : Heap} {mg : Str → Option Value} {c f : Addr} {od an : Option Addr} {sl : Array (Option Value)} {oc kV dc pm ct : Value} (X : K.In h) (G : h.Ns mainGlobals mg)
    (d_int : DefIn K "is_integer" sIsInteger)
    (d_num : DefIn K "is_number" sIsNumber)
    (d_seq : DefIn K "is_sequence" sIsSequence)
    (d_par : DefIn K "is_of_parts" sIsOfParts)
    (d_nn : DefIn K "need_number" sNeedNumber)
    (d_ik : DefIn K "is_keep" sIsKeep)
    (d_nk : DefIn K "need_keep" sNeedKeep)
    (d_co : DefIn K "counts_of" sCountsOf)
    (d_sf : DefIn K "shape_from" sShapeFrom)
    (d_nr : DefIn K "need_rows" sNeedRows)
    (d_sh : DefIn K "shape" sShape)
    (d_st : DefIn K "is_stretch" sIsStretch)
    (d_fo : DefIn K "first_of" sFirstOf)
    (d_ls : DefIn K "lay_shape" sLayShape)
    (d_lg : DefIn K "let_go_shape" sLetGo)
    (d_sa : DefIn K "span_at" sSpanAt)
    (d_fb : DefIn K "first_behind" sFirstBehind)
    (d_box : DefIn K "_law_box" sBox)
    (d_take : DefIn K "_law_take" sTake)
    (d_pick : DefIn K "_law_pick" sPick)
    (a_is : PySem.W.nsIn K mainGlobals "is_shape" = some (some (.ref f))) (l_is : K.lookup f = some ⟨oc, od, .func (PySem.W.fnOf "is_shape" "is_shape" (defArgs sIsShape) (defBody sIsShape) (defScope sIsShape) .none kV dc pm an (.ref c) ct), sl⟩) (c_is : PySem.W.codeIn K (.ref c) "is_shape" = true) (k_is : PySem.W.keepIn K (.ref f) = true)
    (z_isinstance : PySem.W.nsIn K mainGlobals "isinstance" = some none)
    (z_int : PySem.W.nsIn K mainGlobals "int" = some none)
    (z_bool : PySem.W.nsIn K mainGlobals "bool" = some none)
    (z_list : PySem.W.nsIn K mainGlobals "list" = some none)
    (z_tuple : PySem.W.nsIn K mainGlobals "tuple" = some none)
    (z_len : PySem.W.nsIn K mainGlobals "len" = some none)
    (z_range : PySem.W.nsIn K mainGlobals "range" = some none)
    (z_enumerate : PySem.W.nsIn K mainGlobals "enumerate" = some none)
    (z_reversed : PySem.W.nsIn K mainGlobals "reversed" = some none)
    (z_all : PySem.W.nsIn K mainGlobals "all" = some none)
    (z_abs : PySem.W.nsIn K mainGlobals "abs" = some none)
    (z_max : PySem.W.nsIn K mainGlobals "max" = some none)
    (z_min : PySem.W.nsIn K mainGlobals "min" = some none)
    (z_set : PySem.W.nsIn K mainGlobals "set" = some none)
    (z_repr : PySem.W.nsIn K mainGlobals "repr" = some none)
    : AllF K mg c where
  g := ⟨PySem.W.mg_none_of X G z_isinstance, PySem.W.mg_none_of X G z_int, PySem.W.mg_none_of X G z_bool, PySem.W.mg_none_of X G z_list, PySem.W.mg_none_of X G z_tuple, PySem.W.mg_none_of X G z_len, PySem.W.mg_none_of X G z_range, PySem.W.mg_none_of X G z_enumerate, PySem.W.mg_none_of X G z_reversed, PySem.W.mg_none_of X G z_all, PySem.W.mg_none_of X G z_abs, PySem.W.mg_none_of X G z_max, PySem.W.mg_none_of X G z_min, PySem.W.mg_none_of X G z_set, PySem.W.mg_none_of X G z_repr⟩
  int := d_int.fx X G (fun _ _ _ _ _ _ us hl => match us, hl with | [_], _ => rfl)
  num := d_num.fx X G (fun _ _ _ _ _ _ us hl => match us, hl with | [_], _ => rfl)
  seq := d_seq.fx X G (fun _ _ _ _ _ _ us hl => match us, hl with | [_], _ => rfl)
  par := d_par.fx X G (fun _ _ _ _ _ _ us hl => match us, hl with | [_, _], _ => rfl)
  nn := d_nn.fx X G (fun _ _ _ _ _ _ us hl => match us, hl with | [_], _ => rfl)
  ik := d_ik.fx X G (fun _ _ _ _ _ _ us hl => match us, hl with | [_], _ => rfl)
  nk := d_nk.fx X G (fun _ _ _ _ _ _ us hl => match us, hl with | [_], _ => rfl)
  co := d_co.fk X G (fun _ _ _ _ _ _ us hl => match us, hl with | [_, _], _ => rfl) (fun _ _ _ _ _ _ us hl => match us, hl with | [_, _], _ => rfl) (by decide)
  sf := d_sf.fx X G (fun _ _ _ _ _ _ us hl => match us, hl with | [_, _, _], _ => rfl)
  nr := d_nr.fx X G (fun _ _ _ _ _ _ us hl => match us, hl with | [_, _], _ => rfl)
  sh := d_sh.fk X G (fun _ _ _ _ _ _ us hl => match us, hl with | [_, _, _], _ => rfl) (fun _ _ _ _ _ _ us hl => match us, hl with | [_, _, _], _ => rfl) (by decide)
  st := d_st.fx X G (fun _ _ _ _ _ _ us hl => match us, hl with | [_], _ => rfl)
  fo := d_fo.fk X G (fun _ _ _ _ _ _ us hl => match us, hl with | [_, _], _ => rfl) (fun _ _ _ _ _ _ us hl => match us, hl with | [_, _], _ => rfl) (by decide)
  ls := d_ls.fk X G (fun _ _ _ _ _ _ us hl => match us, hl with | [_, _, _], _ => rfl) (fun _ _ _ _ _ _ us hl => match us, hl with | [_, _, _], _ => rfl) (by decide)
  lg := d_lg.fk X G (fun _ _ _ _ _ _ us hl => match us, hl with | [_, _], _ => rfl) (fun _ _ _ _ _ _ us hl => match us, hl with | [_, _], _ => rfl) (by decide)
  sa := d_sa.fk X G (fun _ _ _ _ _ _ us hl => match us, hl with | [_, _, _, _], _ => rfl) (fun _ _ _ _ _ _ us hl => match us, hl with | [_, _, _, _], _ => rfl) (by decide)
  fb := d_fb.fk X G (fun _ _ _ _ _ _ us hl => match us, hl with | [_, _, _, _], _ => rfl) (fun _ _ _ _ _ _ us hl => match us, hl with | [_, _, _, _], _ => rfl) (by decide)
  box := d_box.fx X G (fun _ _ _ _ _ _ us hl => match us, hl with | [_, _], _ => rfl)
  take := d_take.fx X G (fun _ _ _ _ _ _ us hl => match us, hl with | [_, _], _ => rfl)
  pick := d_pick.fx X G (fun _ _ _ _ _ _ us hl => match us, hl with | [_, _], _ => rfl)
  is := ⟨f, _, ⟨⟨oc, od, kV, dc, pm, an, ct, sl, rfl, l_is, c_is⟩, k_is⟩, (fun_mk (st := sIsShape) l_is c_is k_is).binds (fun _ _ _ _ _ _ us hl => match us, hl with | [_, _, _], _ => rfl), PySem.W.mg_of X G a_is⟩
theorem fin10 {K : PySem.W.Frag} {h : Heap} {mg : Str → Option Value} {fa c T f f4 : Addr} {od an od4 an4 : Option Addr} {sl sl4 : Array (Option Value)} {cc : Value} {oe : Option Addr} {vs : Array Value} {sm : Array (Option Value)} {oc kV dc pm ct oc4 kV4 dc4 pm4 cd4 ct4 : Value} (X : K.In h) (G : h.Ns mainGlobals mg) (hfa : mg "law" = some (.ref fa))
    (a4 : PySem.W.nsIn K mainGlobals "law" = some (some (.ref f4))) (l4 : K.lookup f4 = some ⟨oc4, od4, .func (PySem.W.fnOf "law" "law" (defArgs sLaw) (defBody sLaw) (defScope sLaw) .none kV4 dc4 pm4 an4 cd4 ct4), sl4⟩) (c4 : PySem.W.codeIn K cd4 "law" = true) (k4 : PySem.W.keepIn K (.ref f4) = true)
    (d_int : DefIn K "is_integer" sIsInteger)
    (d_num : DefIn K "is_number" sIsNumber)
    (d_seq : DefIn K "is_sequence" sIsSequence)
    (d_par : DefIn K "is_of_parts" sIsOfParts)
    (d_nn : DefIn K "need_number" sNeedNumber)
    (d_ik : DefIn K "is_keep" sIsKeep)
    (d_nk : DefIn K "need_keep" sNeedKeep)
    (d_co : DefIn K "counts_of" sCountsOf)
    (d_sf : DefIn K "shape_from" sShapeFrom)
    (d_nr : DefIn K "need_rows" sNeedRows)
    (d_sh : DefIn K "shape" sShape)
    (d_st : DefIn K "is_stretch" sIsStretch)
    (d_fo : DefIn K "first_of" sFirstOf)
    (d_ls : DefIn K "lay_shape" sLayShape)
    (d_lg : DefIn K "let_go_shape" sLetGo)
    (d_sa : DefIn K "span_at" sSpanAt)
    (d_fb : DefIn K "first_behind" sFirstBehind)
    (d_box : DefIn K "_law_box" sBox)
    (d_take : DefIn K "_law_take" sTake)
    (d_pick : DefIn K "_law_pick" sPick)
    (a_is : PySem.W.nsIn K mainGlobals "is_shape" = some (some (.ref f))) (l_is : K.lookup f = some ⟨oc, od, .func (PySem.W.fnOf "is_shape" "is_shape" (defArgs sIsShape) (defBody sIsShape) (defScope sIsShape) .none kV dc pm an (.ref c) ct), sl⟩) (c_is : PySem.W.codeIn K (.ref c) "is_shape" = true) (k_is : PySem.W.keepIn K (.ref f) = true)
    (l_cd : K.lookup c = some ⟨cc, oe, .fields vs, sm⟩) (h_T : (vs[11]? : Option Value) = some (.ref T)) (nT : K.lookup T = none)
    (z_isinstance : PySem.W.nsIn K mainGlobals "isinstance" = some none)
    (z_int : PySem.W.nsIn K mainGlobals "int" = some none)
    (z_bool : PySem.W.nsIn K mainGlobals "bool" = some none)
    (z_list : PySem.W.nsIn K mainGlobals "list" = some none)
    (z_tuple : PySem.W.nsIn K mainGlobals "tuple" = some none)
    (z_len : PySem.W.nsIn K mainGlobals "len" = some none)
    (z_range : PySem.W.nsIn K mainGlobals "range" = some none)
    (z_enumerate : PySem.W.nsIn K mainGlobals "enumerate" = some none)
    (z_reversed : PySem.W.nsIn K mainGlobals "reversed" = some none)
    (z_all : PySem.W.nsIn K mainGlobals "all" = some none)
    (z_abs : PySem.W.nsIn K mainGlobals "abs" = some none)
    (z_max : PySem.W.nsIn K mainGlobals "max" = some none)
    (z_min : PySem.W.nsIn K mainGlobals "min" = some none)
    (z_set : PySem.W.nsIn K mainGlobals "set" = some none)
    (z_repr : PySem.W.nsIn K mainGlobals "repr" = some none)
    : ∃ (fd : FuncData) (c T : Addr), Fun K "law" "law" sLaw fa fd ∧ (∀ (s : Shared) (u : Value), BindsTo s fd ⟨[u], []⟩ [("_law_script", u)]) ∧ AllF K mg c ∧ PySem.W.tabIn K "is_shape" = some (c, T) ∧ K.lookup T = none := by
  have e := hfa.symm.trans (PySem.W.mg_of X G a4)
  cases e
  exact ⟨_, c, T, fun_mk (st := sLaw) l4 c4 k4, fun s v => .of_eq rfl, all10 X G d_int d_num d_seq d_par d_nn d_ik d_nk d_co d_sf d_nr d_sh d_st d_fo d_ls d_lg d_sa d_fb d_box d_take d_pick a_is l_is c_is k_is z_isinstance z_int z_bool z_list z_tuple z_len z_range z_enumerate z_reversed z_all z_abs z_max z_min z_set z_repr, tab_mk a_is l_is rfl l_cd h_T, nT⟩
end K10
open PySem PySem.W PyProof.Rows in
set_option maxRecDepth 100000 in
set_option maxHeartbeats 0 in
theorem PySem.Challenge.cw_farstory_k10_whole_the_shape_hangs_on_tw_holds : PySem.Challenge.rw_farstory_k10_whole_the_shape_hangs_on_tw.Holds := by
  w_on; o_law; k_head; (case hw => w_witness2)
  k_fill
  refine K10.walk10 (l := PySem.Challenge.rw_farstory_k10_whole_the_shape_hangs_on_tw) rfl rfl rfl (fun w h Y => PySem.W.kIn_of Y) ?F
  case F =>
    intro w mg fa h KX G hmg
    refine' K10.fin10 KX G hmg ?a4 ?l4 ?c4 ?k4 ?d_int ?d_num ?d_seq ?d_par ?d_nn ?d_ik ?d_nk ?d_co ?d_sf ?d_nr ?d_sh ?d_st ?d_fo ?d_ls ?d_lg ?d_sa ?d_fb ?d_box ?d_take ?d_pick ?a_is ?l_is ?c_is ?ki ?l_cd ?h_T ?nT ?z_isinstance ?z_int ?z_bool ?z_list ?z_tuple ?z_len ?z_range ?z_enumerate ?z_reversed ?z_all ?z_abs ?z_max ?z_min ?z_set ?z_repr
    (case a4 => k_is)
    (case l4 => k_is)
    (case c4 => k_is)
    (case k4 => k_is)
    (case d_int => refine' K10.DefIn.mk ?a ?l ?c ?k; (case a => k_is); (case l => k_is); (case c => k_is); (case k => k_is))
    (case d_num => refine' K10.DefIn.mk ?a ?l ?c ?k; (case a => k_is); (case l => k_is); (case c => k_is); (case k => k_is))
    (case d_seq => refine' K10.DefIn.mk ?a ?l ?c ?k; (case a => k_is); (case l => k_is); (case c => k_is); (case k => k_is))
    (case d_par => refine' K10.DefIn.mk ?a ?l ?c ?k; (case a => k_is); (case l => k_is); (case c => k_is); (case k => k_is))
    (case d_nn => refine' K10.DefIn.mk ?a ?l ?c ?k; (case a => k_is); (case l => k_is); (case c => k_is); (case k => k_is))
    (case d_ik => refine' K10.DefIn.mk ?a ?l ?c ?k; (case a => k_is); (case l => k_is); (case c => k_is); (case k => k_is))
    (case d_nk => refine' K10.DefIn.mk ?a ?l ?c ?k; (case a => k_is); (case l => k_is); (case c => k_is); (case k => k_is))
    (case d_co => refine' K10.DefIn.mk ?a ?l ?c ?k; (case a => k_is); (case l => k_is); (case c => k_is); (case k => k_is))
    (case d_sf => refine' K10.DefIn.mk ?a ?l ?c ?k; (case a => k_is); (case l => k_is); (case c => k_is); (case k => k_is))
    (case d_nr => refine' K10.DefIn.mk ?a ?l ?c ?k; (case a => k_is); (case l => k_is); (case c => k_is); (case k => k_is))
    (case d_sh => refine' K10.DefIn.mk ?a ?l ?c ?k; (case a => k_is); (case l => k_is); (case c => k_is); (case k => k_is))
    (case d_st => refine' K10.DefIn.mk ?a ?l ?c ?k; (case a => k_is); (case l => k_is); (case c => k_is); (case k => k_is))
    (case d_fo => refine' K10.DefIn.mk ?a ?l ?c ?k; (case a => k_is); (case l => k_is); (case c => k_is); (case k => k_is))
    (case d_ls => refine' K10.DefIn.mk ?a ?l ?c ?k; (case a => k_is); (case l => k_is); (case c => k_is); (case k => k_is))
    (case d_lg => refine' K10.DefIn.mk ?a ?l ?c ?k; (case a => k_is); (case l => k_is); (case c => k_is); (case k => k_is))
    (case d_sa => refine' K10.DefIn.mk ?a ?l ?c ?k; (case a => k_is); (case l => k_is); (case c => k_is); (case k => k_is))
    (case d_fb => refine' K10.DefIn.mk ?a ?l ?c ?k; (case a => k_is); (case l => k_is); (case c => k_is); (case k => k_is))
    (case d_box => refine' K10.DefIn.mk ?a ?l ?c ?k; (case a => k_is); (case l => k_is); (case c => k_is); (case k => k_is))
    (case d_take => refine' K10.DefIn.mk ?a ?l ?c ?k; (case a => k_is); (case l => k_is); (case c => k_is); (case k => k_is))
    (case d_pick => refine' K10.DefIn.mk ?a ?l ?c ?k; (case a => k_is); (case l => k_is); (case c => k_is); (case k => k_is))
    (case a_is => k_is)
    (case l_is => k_is)
    (case c_is => k_is)
    (case ki => k_is)
    (case l_cd => k_is)
    (case h_T => exact rfl)
    (case nT => kernel_rfl)
    (case z_isinstance => k_is)
    (case z_int => k_is)
    (case z_bool => k_is)
    (case z_list => k_is)
    (case z_tuple => k_is)
    (case z_len => k_is)
    (case z_range => k_is)
    (case z_enumerate => k_is)
    (case z_reversed => k_is)
    (case z_all => k_is)
    (case z_abs => k_is)
    (case z_max => k_is)
    (case z_min => k_is)
    (case z_set => k_is)
    (case z_repr => k_is)

