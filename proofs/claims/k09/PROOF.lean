import PyProof.Rows.All
import Wide.All
import OpenK.AllK
import Wide.FinOn
import PyProof.EqAt
import PyProof.EqKinds
import PyProof.TupleCall
import HandS.Base
import HandS.Call
import HandS.Exc
import KE.KExcInit
import HandS.Ends
import HandS.Comp
import HandS.Dict
import HandS.Words
import HandS.WordsList
import HandS.WordsDict
import HandS.ExcOwn
import HandS.Wide
import HandS.IsInst
import HandS.ExcIs
import HandS.TupLe
import HandS.ForMost
import HandS.ForExc
import PySem.Challenge.RW_loopfoundry_k09_cells_of_places
set_option Elab.async false
set_option linter.all false
set_option maxRecDepth 100000
set_option maxHeartbeats 4000000
/-! try: body, several clauses «except C as n», all with one name n -/
namespace L2.My
open PySem PySem.Spec PyProof.Rows
abbrev Suite := Addr → Value → Option Addr → TS
structure Clause where
  cls : Value
  run : Suite
def clr (i : Nat) (D : Ends) : Ends :=
  { nx := fun σ H => D.nx (σ.set i none) H
    rt := D.rt
    bk := fun σ H => D.bk (σ.set i none) H
    ct := fun σ H => D.ct (σ.set i none) H }
/-- what the clauses wish: the first one that takes it runs its suite with the error in slot i -/
def wish (K : PySem.W.Frag) (i : Nat) (out : WX) (D : Ends) : List Clause → WX
  | [] => out
  | k :: r => fun c d σ H => ∃ b, PySem.W.exmOne K c k.cls = some b ∧
      (b = true → ∀ a, H a = none → k.run a c d (clr i D) (σ.set i (some (.ref a))) H) ∧
      (b = false → wish K i out D r c d σ H)
inductive ClOk (X : Cx) (n : Str) : List ExceptHandler → List Clause → Prop
  | nil : ClOk X n [] []
  | cons {x : Str} {c : Value} {ts : Suite} {b0 : Stmt} {bs : List Stmt} {q1 q2 : Pos} {hs : List ExceptHandler} {l : List Clause}
      (named : Names X x c)
      (body : ∀ (a : Addr) (o : Obj) (k : Value) (d : Option Addr) (pn : List (Addr × Obj)), Zc k d o → (∃ v, o.data = .fields v) →
        PSs (X.suite a ((a, o) :: pn)) (b0 :: bs) (ts a k d))
      (more : ClOk X n hs l) :
      ClOk X n (.ExceptHandler (some (.Name x q1)) (some n) (b0 :: bs) q2 :: hs) (⟨c, ts⟩ :: l)
section
variable {X : Cx} {n : Str} {i : Nat} {out : WX} {pins : List (Addr × Obj)} {σ : St} {H : Hp} {D : Ends}
/-- an exception at a that has come down to the try's frame -/
structure Down (X : Cx) (pins : List (Addr × Obj)) (σ : St) (H : Hp) (a : Addr) (B : Heap) (c : Value) (d : Option Addr) (sI t : Shared) : Prop where
  inv : Inv X pins σ H sI
  gr : ∀ b o, sI.heap.get? b = some o → b ∉ frs X.stack → B.get? b = some o
  up : sI.heap.UpToSlots t.heap
  fl : HandSPX.FlyingZ B (X.env :: X.outer) a (Zc c d) t.heap
  nil : H a = none
  os : t.os = sI.os
  bare : AllBare t.gens
/-- the same a few turns of the frames later -/
theorem Down.on {a : Addr} {B h : Heap} {c : Value} {d : Option Addr} {sI t : Shared} (w : Down X pins σ H a B c d sI t)
    (fl : HandSPX.FlyingZ B (X.env :: X.outer) a (Zc c d) h) (up : t.heap.UpToSlots h) : Down X pins σ H a B c d sI { t with heap := h } :=
  ⟨w.inv, w.gr, w.up.trans up, fl, w.nil, w.os, w.bare⟩
/-- the suite's own state -/
theorem Down.held (fr : X.env.frame = some X.env.locals) {a : Addr} {B : Heap} {c : Value} {d : Option Addr} {sI t : Shared} (w : Down X pins σ H a B c d sI t) :
    ∃ o, t.heap.get? a = some o ∧ Zc c d o ∧ (∃ v, o.data = .fields v) ∧ Inv (X.suite a ((a, o) :: (X.pn ++ pins))) [] σ H t ∧ X.K.In t.heap := by
  have J : Inv X pins σ H t := w.inv.landed w.gr w.fl.1 w.up w.os w.bare
  obtain ⟨o, v, eo, z, dv⟩ := w.fl.there
  have apart : a ∉ frs (X.env :: X.outer) := by
    intro hm
    obtain ⟨_, o2, e2, nf⟩ := w.fl.2.2.1.mem hm
    rw [eo] at e2
    cases e2
    exact nf _ dv
  have away : ∀ e ∈ X.env :: X.outer, e.frame ≠ some a := by
    intro e he q
    exact apart (List.mem_filterMap.mpr ⟨e, he, q⟩)
  refine ⟨o, eo, z, ⟨v, dv⟩, J.suite eo dv w.nil ?_ ?_, J.kIn⟩
  · intro q
    exact away _ (List.mem_cons_self ..) (q ▸ fr)
  · intro q
    obtain ⟨e, he, q⟩ := List.mem_filterMap.mp q
    exact away e (List.mem_cons_of_mem _ he) q
/-- no clause takes it: it flies on -/
theorem Down.pass (st : X.stack = X.env :: X.outer) (fr : X.env.frame = some X.env.locals) (tk : Takes X out) {a : Addr} {B : Heap} {c : Value} {d : Option Addr} {sI t : Shared} (w : Down X pins σ H a B c d sI t)
    (q : out c d σ H) : wpAny (model X.prog X.w) X.A (handleBy (.ref a) X.env []) (SP X pins D) X.xe t := by
  obtain ⟨_, _, _, o, v, T, _, _, eo, _, dv, e1, _⟩ := id w.fl
  have go : wpAny (model X.prog X.w) X.A (setFlight (.ref a) X.env.frame)
      (fun _ t2 => wpAny (model X.prog X.w) X.A (throw (.ref a) : Sem Flow) (SP X pins D) X.xe t2) X.xe t := by
    rw [fr]
    refine HandSPX.setFlight_upZ w.fl ?_
    intro h2 held u2
    refine wpAny_throw (tk _ _ ⟨a, B, sI, pins, σ, H, c, d, rfl, w.inv, w.gr, w.up.trans u2, ?_, w.nil, w.os, w.bare, q⟩)
    rw [st]
    exact Or.inr (Or.inr held)
  refine wpAny_handleBy_nil ?_
  unfold PySem.passOn
  refine wpAny_bind (wpAny_field eo dv e1 ?_)
  have nt : ¬ (Value.ref T == Value.none) = true := by simp
  rw [if_neg nt]
  first
    | exact wpAny_bind go
    | exact wpAny_bind (wpAny_pure (wpAny_bind go))
/-- the clauses, one after the other -/
theorem Down.clauses (st : X.stack = X.env :: X.outer) (fr : X.env.frame = some X.env.locals) (nd : X.N.Nodup) (hi : X.N[i]? = some n) (loc : X.env.kindOf n = some .local) (tk : Takes X out)
    {a : Addr} {B : Heap} {c : Value} {d : Option Addr} {sI t : Shared} (w : Down X pins σ H a B c d sI t) {hs : List ExceptHandler} {l : List Clause} (k : ClOk X n hs l) :
    wish X.K i out D l c d σ H → wpAny (model X.prog X.w) X.A (handleBy (.ref a) X.env hs) (SP X pins D) X.xe t := by
  induction k with
  | nil => exact fun q => w.pass st fr tk q
  | @cons x cc ts b0 bs q1 q2 hs l named body more ih =>
    rintro ⟨b, eb, yes, no⟩
    obtain ⟨o, eo, z, _, S, kin⟩ := w.held fr
    have ty : PySem.W.Looks (model X.prog X.w) t.heap (typeOf (.ref a)) c :=
      fun _ _ _ _ k2 q => wpAny_typeOf_ref (k2 _ _ eo) (by rw [z.1]; exact q)
    have said := PySem.W.exm_one (M := model X.prog X.w) kin ty eb
    have ask : ∀ {Q E : Value → Shared → Prop}, Q cc t →
        wpAny (model X.prog X.w) (X.A.mark (some (.ref a))) (eval (.Name x q1) X.env) Q E t := by
      intro Q E q
      rcases named with ⟨gl, db, mine | ⟨no1, bt, no2⟩⟩
      · exact ld_glob S gl mine q db
      · exact ld_blt S gl no1 bt q no2 db
    refine wpAny_handleBy_cons (codeAny_handlers_test (ask (said.here ?_))) (by intro q; cases q)
    cases b with
    | false =>
      show wpAny _ X.A (handleBy (.ref a) X.env hs) _ _ _
      exact ih (no rfl)
    | true =>
      refine codeAny_handlers_suite_as (HandSPX.lands_againZ w.fl fun h2 f2 u2 => ?_)
      obtain ⟨o2, eo2, z2, dv2, S2, _⟩ := (w.on f2 u2).held fr
      have ok := w.inv.ok
      refine store_ok (X := X.suite a ((a, o2) :: (X.pn ++ pins))) (v := .ref a) S2 nd hi (.inl loc) rfl (fun s5 S5 => ?_) (.inr loc)
      refine wpAny_mono ((body a o2 c d (X.pn ++ pins) z2 dv2).run [] s5 _ H _ S5 (yes rfl a w.nil)) ?_ (fun _ _ e => e.elim)
      intro f s6 r
      have away : ∀ {σ6 : St} {H6 : Hp} {Q : Shared → Prop}, Inv (X.suite a ((a, o2) :: (X.pn ++ pins))) [] σ6 H6 s6 →
          (∀ s7, Inv X pins (σ6.set i none) H6 s7 → Q s7) →
          wpAny (model X.prog X.w) X.A (do bindName X.env n .none; unbindBehindTheSuite X.env n q2) (fun _ s7 => Q s7) X.xe s6 :=
        fun S6 q => gone_ok (S6.unsuite ok) nd hi loc q
      cases f with
      | ret u => obtain ⟨v6, σ6, H6, S6, r6, q6⟩ := r; exact away S6 fun _ J => ⟨_, _, _, J, r6, q6⟩
      | next => obtain ⟨σ6, H6, S6, q6⟩ := r; exact away S6 fun _ J => ⟨_, _, J, q6⟩
      | cont => obtain ⟨σ6, H6, S6, q6⟩ := r; exact away S6 fun _ J => ⟨_, _, J, q6⟩
      | brk => obtain ⟨σ6, H6, S6, q6⟩ := r; exact away S6 fun _ J => ⟨_, _, J, q6⟩
/-- THE RULE -/
theorem ps_try_clauses {body : List Stmt} {h0 : ExceptHandler} {hs : List ExceptHandler} {l : List Clause} {tb : WX → TS} {pos : Pos}
    (st : X.stack = X.env :: X.outer) (fr : X.env.frame = some X.env.locals) (nd : X.N.Nodup) (hi : X.N[i]? = some n) (loc : X.env.kindOf n = some .local) (tk : Takes X out)
    (hb : ∀ (W : WX) (pn : List (Addr × Obj)) (xe : Value → Shared → Prop), Takes (X.tr pn xe) W → PassesOwn (model X.prog X.w) X.A X.env xe → PSs (X.tr pn xe) body (tb W))
    (k : ClOk X n (h0 :: hs) l) : PS X (.Try body (h0 :: hs) [] [] pos) (fun D σ H => tb (wish X.K i out D l) D σ H) := by
  refine ⟨fun pins s σ H D I h => wpAny_Try_except ?_⟩
  have ok := I.ok
  have frames : X.A.frames = some (X.env :: X.outer) := ok.frames.trans (congrArg some st)
  obtain ⟨xe, exe⟩ : ∃ xe : Value → Shared → Prop, xe = fun e s1 => wpAny (model X.prog X.w) X.A (noteFrame e X.env)
      (fun _ s2 => wpAny (model X.prog X.w) X.A (setFlight e none) (fun _ s3 => wpAny (model X.prog X.w) X.A (handleBy e X.env (h0 :: hs)) (SP X pins D) X.xe s3) X.xe s2) X.xe s1 := ⟨_, rfl⟩
  have caught : Takes (X.tr (X.pn ++ pins) xe) (wish X.K i out D l) := by
    rintro u s1 ⟨a, B, sI, pins1, σ1, H1, c, d, rfl, J, gr, up, sky, na, os, ag, q⟩
    show xe (.ref a) s1
    rw [exe]
    have sky1 : Sky B (X.env :: X.outer) a (Zc c d) X.env.locals s1.heap := st ▸ sky
    refine Sky.land Zc.steady frames fr sky1 fun h3 f3 u3 => ?_
    have w : Down X pins σ1 H1 a B c d sI { s1 with heap := h3 } := ⟨J.ofTry ok, gr, up.trans u3, f3, na, os, ag⟩
    exact w.clauses st fr nd hi loc tk k q
  have own : PassesOwn (model X.prog X.w) X.A X.env xe := by
    rw [exe]
    exact PassesOwn.looking
  refine wpAny_mono ((hb _ (X.pn ++ pins) xe caught own).run [] s σ H D (I.toTry _) h) ?_ ?_
  · intro f s1 r
    cases f with
    | ret u => obtain ⟨v, σ1, H1, J, r1, q⟩ := r; exact ⟨v, σ1, H1, J.ofTry ok, r1, q⟩
    | next => obtain ⟨σ1, H1, J, q⟩ := r; exact wpAny_execs_nil ⟨σ1, H1, J.ofTry ok, q⟩
    | cont => obtain ⟨σ1, H1, J, q⟩ := r; exact ⟨σ1, H1, J.ofTry ok, q⟩
    | brk => obtain ⟨σ1, H1, J, q⟩ := r; exact ⟨σ1, H1, J.ofTry ok, q⟩
  · intro e s1 he
    have he' : xe e s1 := he
    rw [exe] at he'
    exact he'
end
end L2.My
/-! an own error class over any of the eleven built-in bases, whose __init__(self, value) keeps value -/
namespace L2.My
open PySem PySem.Spec PyProof.Rows PySem.W PySem.Calls
def initArgs (p q : Pos) : Arguments :=
  { posonlyargs := [], args := [⟨"self", none, p⟩, ⟨"value", none, q⟩], vararg := none, kwonlyargs := [], kw_defaults := [], kwarg := none, defaults := [] }
def initBody (a b c d : Pos) : List Stmt := [.Assign [.Attribute (.Name "self" a) "value" b] (.Name "value" c) d]
def initScope : Scope :=
  { kind := .function, names := [(Str.ofString "self", .local), (Str.ofString "value", .local)], isGenerator := false, isCoroutine := false, more := [] }
/-- what the top's written part says of the class (at C, called nm in the module) and of its __init__ (at f) -/
structure ErrCls (K : Frag) (mg : Str → Option Value) (nm : Str) (qi : Str) (newId : String) (bmB : List Value) (C f : Addr) : Prop where
  gl : mg nm = some (.ref C)
  cl : ∃ n q N bs bm sn sub ab col dd k0 k1 k2 k3 k5, K.lookup C = some (excClassObj n q C N bs bm true sn sub ab col dd k0 k1 k2 k3 k5 newId) ∧ excTail bmB bm = true
  sa : findIn K (.ref C) "__setattr__" = some (some (.builtin "object.__setattr__"))
  ga : findIn K (.ref C) "__getattribute__" = some (some (.builtin "BaseException.__getattribute__"))
  gg : findIn K (.ref C) "__getattr__" = some none
  no : findIn K (.ref C) "value" = some none
  ini : findIn K (.ref C) "__init__" = some (some (.ref f))
  tf : typeIn K (.ref f) = some (.type "function")
  kp : keepIn K (.ref C) = true
  sub : subIn K (.ref C) (.type "BaseException") = some true
  ty : typeIn K (.ref C) = some (.type "type")
  hd : hasDictIn K C = true
  fn : ∃ (oc : Value) (od : Option Addr) (doc pm : Value) (an : Option Addr) (cd ct : Value) (sl : Array (Option Value)) (p q a b c d : Pos),
    K.lookup f = some ⟨oc, od, .func (fnOf "__init__" qi (initArgs p q) (initBody a b c d) initScope .none .none doc pm an cd ct), sl⟩ ∧ codeIn K cd qi = true
section
variable {prog : Program} {w : World} {A : Around} {E : Value → Shared → Prop} {R : Result → Shared → Prop} {s : Shared} {K : Frag} {mg : Str → Option Value}
variable {nm qi : Str} {B newId initId : String} {bmB : List Value} {C f : Addr}
theorem ErrCls.cls (T : ErrCls K mg nm qi newId bmB C f) : ∃ cd bm, clsIn K C = some cd ∧ cd.mro = .ref C :: bm ∧ excTail bmB bm = true ∧ cd.hasDict = true := by
  obtain ⟨n, q, N, bs, bm, sn, sub, ab, col, dd, k0, k1, k2, k3, k5, h, t⟩ := T.cl
  refine ⟨{ name := n, bases := bs, mro := .ref C :: bm, ns := N, qualname := q, hasDict := true, slotNames := sn, subclasses := sub, abstract := ab, collection := col, hasDel := false }, bm, ?_, rfl, t, rfl⟩
  unfold clsIn
  rw [h] <;> rfl
theorem ErrCls.over (T : ErrCls K mg nm qi newId bmB C f) : excOver K C bmB = true := by
  obtain ⟨cd, bm, h, m, t, _⟩ := T.cls
  unfold excOver
  rw [h]
  simp [m, t]
theorem ErrCls.taker (T : ErrCls K mg nm qi newId bmB C f) : takerIn K C "value" = some none := by
  unfold takerIn
  rw [T.no]
  rfl
/-- the first field of a fresh exception at x -/
theorem first_field (SF : StoreFacts B bmB "object.__setattr__" "object") (T : ErrCls K mg nm qi newId bmB C f) {x t0 : Addr} {tk : Tok} {v : Value} (X : K.In s.heap) (hx : s.heap.get? x = some (HandSPX.excO C t0))
    (hq : ∀ h' tk' dx, (∀ b o, b ≠ x → s.heap.get? b = some o → h'.get? b = some o) → s.heap.objs.size ≤ dx → dx ≠ x →
      h'.get? x = some { cls := .ref C, dict := some dx, data := .fields #[.ref t0, .none, .none, .none, .bool false, .none] } →
      h'.Ns1 dx (fun y => if y = "value" then some v else none) → R (.ok (.ret .none)) { s with heap := h', toks := tk' }) :
    codeAny (model prog w) A (.call (.builtin "object.__setattr__") ⟨[.ref x, .str "value" tk, v], []⟩) R s := by
  obtain ⟨cd, bm, hcd, _, _, dic⟩ := T.cls
  have I : InstAt s.heap x (HandSPX.excO C t0) C none := ⟨hx, rfl, rfl, trivial⟩
  have far : x ≠ s.heap.objs.size := Nat.ne_of_lt (Heap.lt_size hx)
  refine osa_openX SF X I T.over T.taker fun b => ?_
  have Lc : Looks (model prog w) s.heap (classData C) cd := looks_clsIn X hcd
  obtain ⟨hp, g, d, t, os⟩ := s
  obtain ⟨n1, bs1, mro1, ns1, q1, hd1, sn1, sb1, ab1, co1, del1⟩ := cd
  dsimp only at dic
  subst dic
  dsimp only at hx far
  unfold Builtin.ObjectAttr.storeInOwnDict Builtin.ObjectAttr.ownDictForStores
  repeat (first | with_reducible refine HandSPX.store_in_new ?_ ?_ | with_reducible refine wpAny_loadPart_at hx ?_ | with_reducible refine Lc.at ?_ | wp_step)
  · exact ⟨_, #[], _, (Heap.get?_update_ne _ _ _ _ far.symm).trans (Heap.get?_push_at rfl rfl), rfl, fun e he => absurd he (by simp), fun _ => rfl⟩
  · intro h' tk' hn sb
    have hx1 : (hp.push { cls := .type "dict", data := .dict #[] }).get? x = some (HandSPX.excO C t0) := Heap.get?_push_of_some _ hx
    refine hq h' tk' hp.objs.size ?_ (Nat.le_refl _) far.symm ((sb.2 x far).trans (Heap.get?_update_self _ hx1 rfl)) hn
    intro b o nb e
    exact (sb.2 b (Nat.ne_of_lt (Heap.lt_size e))).trans ((Heap.get?_update_ne _ _ _ _ nb).trans (Heap.get?_push_of_some _ e))
theorem own_name {M : Model} {scope : Scope} {name x : Str} {L a : Addr} {cd v : Value} {m : Str → Option Value} {pos : Pos} {Q : Value → Shared → Prop}
    (hn : s.heap.Ns L m) (hv : m x = some v) (h : Q v s) (k1 : scope.kind = .function := by rfl) (k2 : (envOfC name scope L a cd).kindOf x = some .local := by rfl) (k3 : (x == ("__debug__" : Str)) = false := by decide) :
    wpAny M A (eval (.Name x pos) (envOfC name scope L a cd)) Q E s := wpAny_Name (wpAny_loadName_local k1 k2 hn hv h) k3
/-- what __init__ leaves of a fresh exception at x -/
structure Kept (h h' : Heap) (x C dx t : Addr) (v : Value) : Prop where
  old : ∀ b o, b ≠ x → h.get? b = some o → h'.get? b = some o
  me : h'.get? x = some { cls := .ref C, dict := some dx, data := .fields #[.ref t, .none, .none, .none, .bool false, .none] }
  far : h.objs.size ≤ dx
  ne : dx ≠ x
  ns : h'.Ns1 dx (fun y => if y = "value" then some v else none)
theorem ErrCls.init (SF : StoreFacts B bmB "object.__setattr__" "object") (T : ErrCls K mg nm qi newId bmB C f) {x t0 : Addr} {v : Value} (X : K.In s.heap) (lim : s.heap.NoLimit) (hx : s.heap.get? x = some (HandSPX.excO C t0))
    (room : A.depth < recursionLimit) (hq : ∀ h' tk dx, Kept s.heap h' x C dx t0 v → R (.ok (.ret .none)) { s with heap := h', toks := tk }) :
    codeAny (model prog w) A (.call (.ref f) ⟨[.ref x, v], []⟩) R s := by
  obtain ⟨oc, od, doc, pm, an, cd, ct, sl, p, q, a, b, c, d, lf, hcd⟩ := T.fn
  refine Att.call_fn (binds := [("self", .ref x), ("value", v)]) X lim lf hcd room (BindsTo.of_eq (by first | rfl | with_unfolding_all rfl)) (by first | rfl | decide | with_unfolding_all rfl) (fun s1 IC => ?_) rfl rfl rfl
  obtain ⟨h1, tk1, rfl⟩ := IC.toInCall.same
  have old : ∀ b o, s.heap.get? b = some o → h1.get? b = some o := IC.toInCall.keep
  have ns := IC.toInCall.ns
  have hx1 := old _ _ hx
  have X1 : K.In h1 := X.keeps old
  show wpAny _ _ (execs _ _) _ _ _
  refine wpAny_execs_cons (plainObj_wpAny_Assign_Attribute (own_name (v := v) ns (by first | rfl | with_unfolding_all rfl | kernel_rfl) (own_name (v := .ref x) ns (by first | rfl | with_unfolding_all rfl | kernel_rfl) ?_)))
  refine set_plain X1 (ox := HandSPX.excO C t0) (od := none) ⟨hx1, rfl, rfl, trivial⟩ T.sa (first_field SF T X1 hx1 fun h2 tk2 dx k2 far ne me n2 => ?_)
  show wpAny _ _ (execs _ _) _ _ _
  have more : s.heap.objs.size < h1.objs.size := ns.lt
  exact wpAny_execs_nil (hq h2 tk2 dx ⟨fun b o nb e => k2 b o nb (old b o e), me, Nat.le_of_lt (Nat.lt_of_lt_of_le more far), ne, n2⟩)
/-- a made error -/
structure Made (h h' : Heap) (e C d : Addr) (v : Value) : Prop where
  old : ∀ b o, h.get? b = some o → h'.get? b = some o
  new : h.objs.size ≤ e
  me : ∃ oe vs, h'.get? e = some oe ∧ oe.cls = .ref C ∧ oe.dict = some d ∧ oe.data = .fields vs ∧ vs[1]? = some .none
  far : h.objs.size ≤ d
  ne : d ≠ e
  ns : h'.Ns1 d (fun y => if y = "value" then some v else none)
theorem ErrCls.make (FB : ExcBaseFacts B newId initId bmB) (SF : StoreFacts B bmB "object.__setattr__" "object") (T : ErrCls K mg nm qi newId bmB C f) {v : Value} (X : K.In s.heap) (lim : s.heap.NoLimit) (room : A.depth + 1 < recursionLimit)
    (hq : ∀ h' tk e d, Made s.heap h' e C d v → R (.ok (.ret (.ref e))) { s with heap := h', toks := tk }) :
    codeAny (model prog w) A (.call (.ref C) ⟨[v], []⟩) R s := by
  obtain ⟨n, q, N, bs, bm, sn, sub, ab, col, dd, k0, k1, k2, k3, k5, lc, tl⟩ := T.cl
  obtain ⟨hp, g, dr, tk, os⟩ := s
  obtain ⟨hp2, ehp2⟩ : ∃ h2, h2 = (hp.push (kdv_tup [v])).push (HandSPX.excO C hp.objs.size) := ⟨_, rfl⟩
  have old : ∀ b o, hp.get? b = some o → hp2.get? b = some o := fun b o e => by
    rw [ehp2]
    exact Heap.get?_push_of_some _ (Heap.get?_push_of_some _ e)
  have me : hp2.get? (hp.objs.size + 1) = some (HandSPX.excO C hp.objs.size) := by rw [ehp2]; heap_get
  have z2 : hp2.objs.size = hp.objs.size + 1 + 1 := by rw [ehp2, Heap.size_push, Heap.size_push]
  refine HandSPX.call_own FB (fun Y => excTail_contains Y bm tl) (X _ _ lc) (looks_findIn X T.ini) (fun self => bind_fn X self T.tf) (by rw [sizeLine_eq]; exact (by decide : 1 ≤ 16777216)) ?_
  rw [← ehp2]
  refine ErrCls.init (s := ⟨hp2, g, dr, tk, os⟩) SF T (X.keeps old) (lim.keeps old) me room fun h' tk' dx k => ?_
  have o2 : ∀ b o, hp.get? b = some o → h'.get? b = some o := fun b o e =>
    k.old b o (Nat.ne_of_lt (Nat.lt_succ_of_lt (Heap.lt_size e))) (old b o e)
  have far := k.far
  dsimp only at far
  rw [z2] at far
  exact ⟨rfl, hq h' tk' _ dx ⟨o2, Nat.le_succ _, ⟨_, _, k.me, rfl, rfl, rfl, rfl⟩, Nat.le_trans (Nat.le_trans (Nat.le_succ _) (Nat.le_succ _)) far, k.ne, k.ns⟩⟩
end
theorem rel_value {v : V} {u : Value} (r : RelV v u) (g : Str) : RelO (List.lookup g [(("value" : Str), v)]) (if g = "value" then some u else none) := by
  by_cases e : g = "value"
  · rw [if_pos e, e, show List.lookup ("value" : Str) [(("value" : Str), v)] = some v by simp [List.lookup]]
    exact r
  · have e2 : (g == ("value" : Str)) = false := by simpa using e
    rw [if_neg e, show List.lookup g [(("value" : Str), v)] = none by simp [List.lookup, e2]]
    trivial
section
variable {X : Cx} {nm qi : Str} {B newId initId : String} {bmB : List Value} {C f : Addr}
/-- C(e) as what is raised: its own dict d is new and holds value -/
def tErr (C : Addr) (ta : TA) : L2.St → Hp → XK → Prop := fun σ H Q => ta σ H fun vs H1 => ∃ v, vs = [v] ∧ ∀ d, H1 d = none → Q (.ref C) (some d) (upd H1 d (.xd [(("value" : Str), v)]))
theorem pmk_err {a : Expr} {ta : TA} {p pos : Pos} {k : Nat} (FB : ExcBaseFacts B newId initId bmB) (SF : StoreFacts B bmB "object.__setattr__" "object") (T : ErrCls X.K X.mg nm qi newId bmB C f) (hr : Room k X.A) (ha : PA X [a] ta) (hg : Gl X nm)
    (hdb : (nm == ("__debug__" : Str)) = false := by decide)
    (he : starEach (a :: []) X.env = (false, eval a X.env) :: starEach [] X.env := by rfl) (hpl : (backTo pos (starEach [] X.env)).any (·.1) = false := by rfl) :
    PMk X (.Call (.Name nm p) [a] [] pos) (tErr C ta) := by
  intro pins s σ H Q I h
  refine wpAny_Call_Name_kw (ld_glob I hg T.gl (callWith_K (h₀ := X.base) I.ok.mod.kin T.kp (thn (ha.run pos pins s σ H _ I h) fun us s1 hh => ?_) he hpl) hdb)
  obtain ⟨vs, H1, I1, r1, v, rfl, q1⟩ := hh
  refine ⟨I1.kIn, ?_⟩
  obtain ⟨u, rfl, rv⟩ : ∃ u, us = [u] ∧ RelV v u := by
    cases r1 with
    | cons ru rn =>
      cases rn
      exact ⟨_, rfl, ru⟩
  show wpAny _ _ (call (.ref C) [u]) _ _ _
  have lim := I1.nolimit
  obtain ⟨hp, g, dr, tk, os⟩ := s1
  refine wpAny_call (ErrCls.make FB SF T I1.kIn lim (by have := hr.dp; omega) fun h' tk' e d M => ?_)
  show MkP X pins σ Q (.ref e) ⟨h', g, dr, tk', os⟩
  obtain ⟨oe, fv, eo, ec, ed, dt, e1⟩ := M.me
  obtain ⟨G, g1, g2⟩ := restrict h' fun b => decide (b ≠ e)
  have same : ∀ b, b ≠ e → G.get? b = h'.get? b := fun b nb => g1 b (decide_eq_true nb)
  have gone : G.get? e = none := g2 e (by simp)
  have old : ∀ b o, hp.get? b = some o → G.get? b = some o := fun b o z =>
    (same b (Nat.ne_of_lt (Nat.lt_of_lt_of_le (Heap.lt_size z) M.new))).trans (M.old b o z)
  have fresh : H1 e = none := I1.hok.fresh M.new
  have there : ObjOk X.prog X.w (upd H1 d (.xd [(("value" : Str), v)])) G d (.xd [(("value" : Str), v)]) :=
    ⟨_, M.ns.at (fun o z => (same d M.ne).trans z), rel_value rv⟩
  have J : Inv X pins σ (upd H1 d (.xd [(("value" : Str), v)])) ⟨G, g, dr, tk', os⟩ := I1.laid (t' := tk') old M.far there
  refine ⟨e, oe, fv, ⟨G, g, dr, tk', os⟩, _, .ref C, some d, rfl, J, ?_, gone, eo, ⟨ec, ed⟩, dt, e1, ?_, rfl, I1.bare, raises_own T.sub T.ty, q1 d (I1.hok.fresh M.far)⟩
  · intro b o z
    have nb : b ≠ e := by
      rintro rfl
      have z' : G.get? b = some o := z
      rw [gone] at z'
      cases z'
    exact (same b nb).symm.trans z
  · rw [upd_ne (Ne.symm M.ne)]
    exact fresh
def tRaiseErr (C : Addr) (W : WX) (ta : TA) : TS := fun _ σ H => tErr C ta σ H fun c d H' => W c d σ H'
theorem ps_raiseErr {a : Expr} {ta : TA} {W : WX} {p pos pos2 : Pos} {k : Nat} (FB : ExcBaseFacts B newId initId bmB) (SF : StoreFacts B bmB "object.__setattr__" "object") (hc : X.calm = true) (T : ErrCls X.K X.mg nm qi newId bmB C f) (hr : Room k X.A) (tk : Takes X W) (ha : PA X [a] ta) (hg : Gl X nm)
    (hdb : (nm == ("__debug__" : Str)) = false := by decide)
    (he : starEach (a :: []) X.env = (false, eval a X.env) :: starEach [] X.env := by rfl) (hpl : (backTo pos (starEach [] X.env)).any (·.1) = false := by rfl) :
    PS X (.Raise (some (.Call (.Name nm p) [a] [] pos)) none pos2) (tRaiseErr C W ta) := ps_raise hc tk (pmk_err FB SF T hr ha hg hdb he hpl)
/-- error.value in the suite of such an error -/
def tOfErr (C a : Addr) (cls : Value) (d : Option Addr) (te : TE) : TE := fun σ H Q => te σ H fun x H1 => x = .ref a ∧ cls = .ref C ∧ ∃ (dd : Addr) (v : V), d = some dd ∧ H1 dd = some (.xd [(("value" : Str), v)]) ∧ Q v H1
theorem pe_ofErr {a : Addr} {oe : Obj} {cls : Value} {d : Option Addr} {pn : List (Addr × Obj)} {e : Expr} {te : TE} {pos : Pos} (T : ErrCls X.K X.mg nm qi newId bmB C f) (hz : Zc cls d oe) (hf : ∃ vs, oe.data = .fields vs) (he : PE (X.suite a ((a, oe) :: pn)) e te)
    (hb : attributeBase e "value" X.env (eval e X.env) = eval e X.env := by rfl) :
    PE (X.suite a ((a, oe) :: pn)) (.Attribute e "value" pos) (tOfErr C a cls d te) := by
  refine ⟨fun pins s σ H Q I h => attr_of hb (thn (he.run pins s σ H _ I h) fun u s1 hh => ?_)⟩
  obtain ⟨x, H1, I1, rx, rfl, rfl, dd, v, rfl, ea, q⟩ := hh
  obtain rfl : u = Value.ref a := rx
  obtain ⟨vs, dt⟩ := hf
  obtain ⟨at_, _⟩ := I1.pin (a, oe) (List.mem_append_left _ List.mem_cons_self)
  obtain ⟨mA, hns, hr⟩ := (show ObjOk X.prog X.w H1 s1.heap dd (.xd [(("value" : Str), v)]) from I1.hok dd _ ea)
  obtain ⟨od, ho, hl⟩ := lookIn_ns hns
  obtain ⟨u, hu, ru⟩ := RelO.some_of (v := v) (o := mA "value") (by
    rw [← (show List.lookup ("value" : Str) [(("value" : Str), v)] = some v by simp [List.lookup])]
    exact hr "value")
  have J : InstAt s1.heap a oe C (some od) := ⟨at_, hz.1, by unfold notCls; rw [dt] <;> rfl, by rw [hz.2]; exact ho⟩
  exact HandSPX.exc_get I1.kIn J T.ga T.gg T.sub (findObj_own T.hd T.no rfl (by rw [hl, hu])) (handed_of ru) ⟨v, H1, I1.tok _, ru, q⟩
end
end L2.My
namespace K9
open PySem L2
open L2.My
def top (i : Nat) : Stmt := PySem.Challenge.pw_loopfoundry_k09_cells_of_places.main.body.getD i (.Pass ⟨0, 0, 0, 0⟩)
abbrev tWhole : Stmt := top 6
abbrev tInteger : Stmt := top 7
abbrev tPlace : Stmt := top 9
abbrev tCell : Stmt := top 10
abbrev tPair : Stmt := top 11
abbrev tDice : Stmt := top 13
abbrev tNextD : Stmt := top 14
abbrev tCells : Stmt := top 15
abbrev tGreat : Stmt := top 16
abbrev tWholeD : Stmt := top 17
abbrev tCount : Stmt := top 18
abbrev tWord : Stmt := top 19
abbrev tOdd : Stmt := top 20
abbrev tOne : Stmt := top 21
abbrev tLaw : Stmt := top 22
/-! ### values by what the checks see of them -/
abbrev kinds : List String := ["bool", "NoneType", "str", "list", "dict"]
/-- an int (told), or something else of a known type -/
inductive Item (K : PySem.W.Frag) (H : Hp) : V → Option Int → Prop
  | int (i : Int) : Item K H (.int i) (some i)
  | other {x : V} {n : String} (t : TyX K H x (.type n)) (m : n ∈ "tuple" :: kinds) : Item K H x none
/-- a pair of two items (told), or something else -/
inductive Two (K : PySem.W.Frag) (H : Hp) : V → Option (Option Int × Option Int) → Prop
  | no {x : V} {n : String} (t : TyX K H x (.type n)) (m : n ∈ "int" :: kinds) : Two K H x none
  | tup {a : Addr} {xs : List V} (e : H a = some (.tup xs)) (l : xs.length ≠ 2) : Two K H (.ref a) none
  | two {a : Addr} {x y : V} {ox oy : Option Int} (e : H a = some (.tup [x, y])) (hx : Item K H x ox) (hy : Item K H y oy) : Two K H (.ref a) (some (ox, oy))
def inB (i : Int) : Bool := decide (-(10 ^ 30) < i) && decide (i < 10 ^ 30)
def small : Option Int → Bool
  | some i => inB i
  | none => false
def pairB : Option (Option Int × Option Int) → Bool
  | some (some _, some _) => true
  | _ => false
def placeB : Option (Option Int × Option Int) → Bool
  | some (x, y) => small x && small y
  | _ => false
structure Txt (K : PySem.W.Frag) (mg : Str → Option Value) : Prop where
  isi : mg "isinstance" = none
  int : mg "int" = none
  bool : mg "bool" = none
  tuple : mg "tuple" = none
  len : mg "len" = none
  long : ∃ t, mg "LONG" = some (.int (10 ^ 30) t)
section
variable {P : Program} {w : World} {K : PySem.W.Frag} {mg : Str → Option Value} {base : Heap}
/-! ### is_whole -/
def spWhole (K : PySem.W.Frag) : Sp := fun vs H Q _ => ∃ x o, vs = [x] ∧ Item K H x o ∧ Q (.bl o.isSome) H
theorem scWhole : FnScope ["value"] ["value"] (defScope tWhole) := ⟨rfl, rfl, rfl, by decide +kernel, rfl, by decide +kernel, by decide +kernel⟩
theorem ok_whole {f : Addr} {fd : FuncData} (F : Fun K "is_whole" "is_whole" tWhole f fd) (T : Txt K mg) : FnOk P w K mg base CX0 1 f fd ["value"] (spWhole K) := by
  refine F.ok scWhole (fun vs H Q E h => ?_) (fun cdv A outer s H vs Q E hr h => ?_)
  · obtain ⟨x, o, rfl, _⟩ := h
    rfl
  · obtain ⟨x, o, rfl, it, k⟩ := h
    refine ⟨_, pss_one (ps_ret (pe_and (pe_callB call_isi (by rfl) T.isi (by decide +kernel) (pa_cons (pv 0) (pa_cons (pe_bltn (v := .ty "int") (by rfl) T.int (by decide +kernel) rfl) pa_nil)))
      (pe_one (pe_not (pe_callB call_isi (by rfl) T.isi (by decide +kernel) (pa_cons (pv 0) (pa_cons (pe_bltn (v := .ty "bool") (by rfl) T.bool (by decide +kernel) rfl) pa_nil))))))), ?_⟩
    cases it with
    | int i =>
      refine ⟨_, rfl, _, _, _, _, _, rfl, ClsV.ty _, .base (.int i), kit_ty (r := true) (by decide +kernel), _, rfl, iteT ?_⟩
      exact ⟨_, rfl, _, _, _, _, _, rfl, ClsV.ty _, .base (.int i), kit_ty (r := false) (by decide +kernel), _, rfl, k⟩
    | @other _ n t m =>
      simp only [List.mem_cons, List.not_mem_nil, or_false] at m
      rcases m with rfl | rfl | rfl | rfl | rfl | rfl
      case inr.inl =>
        refine ⟨_, rfl, _, _, _, _, _, rfl, ClsV.ty _, t, kit_ty (r := true) (by decide +kernel), _, rfl, iteT ?_⟩
        exact ⟨_, rfl, _, _, _, _, _, rfl, ClsV.ty _, t, kit_ty (r := true) (by decide +kernel), _, rfl, k⟩
      all_goals
        exact ⟨_, rfl, _, _, _, _, _, rfl, ClsV.ty _, t, kit_ty (r := false) (by decide +kernel), _, rfl, iteF k⟩
/-! ### is_integer -/
def spInteger (K : PySem.W.Frag) : Sp := fun vs H Q _ => ∃ x o, vs = [x] ∧ Item K H x o ∧ Q (.bl (small o)) H
theorem scInteger : FnScope ["value"] ["value"] (defScope tInteger) := ⟨rfl, rfl, rfl, by decide +kernel, rfl, by decide +kernel, by decide +kernel⟩
theorem ok_integer {f fW : Addr} {fd fdW : FuncData} (F : Fun K "is_integer" "is_integer" tInteger f fd) (T : Txt K mg) (FW : Fun K "is_whole" "is_whole" tWhole fW fdW) (bW : Binds K fdW ["value"] []) (gW : mg "is_whole" = some (.ref fW)) :
    FnOk P w K mg base CX0 2 f fd ["value"] (spInteger K) := by
  have GW : FnOk P w K mg base CX0 1 fW fdW ["value"] (spWhole K) := ok_whole FW T
  obtain ⟨tl, long⟩ := T.long
  refine F.ok scInteger (fun vs H Q E h => ?_) (fun cdv A outer s H vs Q E hr h => ?_)
  · obtain ⟨x, o, rfl, _⟩ := h
    rfl
  · obtain ⟨x, o, rfl, it, k⟩ := h
    refine ⟨_, pss_one (ps_ret (pe_and (pe_call GW hr rfl gW FW.kp bW .nil pass0 (pa_cons (pv 0) pa_nil))
      (pe_one (pe_chain op_lt op_lt (pe_un un_neg (pe_glob (v := .int (10 ^ 30)) rfl long ⟨_, rfl⟩)) (pv 0) (pe_glob (v := .int (10 ^ 30)) rfl long ⟨_, rfl⟩))))), ?_⟩
    refine ⟨_, rfl, x, o, rfl, it, _, rfl, ?_⟩
    cases it with
    | other t m => exact iteF k
    | int i =>
      refine iteT ⟨_, rfl, _, rfl, _, _, rfl, rfl, _, rfl, ?_⟩
      by_cases c : -(10 ^ 30) < i
      · rw [decide_eq_true c]
        refine iteT ⟨_, _, rfl, rfl, ?_⟩
        have z : small (some i) = decide (i < 10 ^ 30) := by
          show (decide (-(10 ^ 30) < i) && _) = _
          rw [decide_eq_true c, Bool.true_and]
        rw [z] at k
        exact k
      · rw [decide_eq_false c]
        have z : small (some i) = false := by
          show (decide (-(10 ^ 30) < i) && _) = _
          rw [decide_eq_false c, Bool.false_and]
        rw [z] at k
        exact iteF k
end
end K9
namespace K9
open PySem L2
open L2.My
abbrev mroV : List Value := [.type "ValueError", .type "Exception", .type "BaseException", .type "object"]
abbrev mroR : List Value := [.type "RuntimeError", .type "Exception", .type "BaseException", .type "object"]
structure Errs (K : PySem.W.Frag) (mg : Str → Option Value) (CA CF CN fN : Addr) : Prop where
  num : ErrCls K mg "InvalidNumber" "InvalidNumber.__init__" "RuntimeError.__new__" mroR CN fN
  gA : mg "InvalidArgument" = some (.ref CA)
  gF : mg "FoundryError" = some (.ref CF)
  val : mg "ValueError" = none
  xA : PySem.W.excIn K CA mroV "ValueError.__new__" = true
  kA : PySem.W.keepIn K (.ref CA) = true
  bA : PySem.W.subIn K (.ref CA) (.type "BaseException") = some true
  tA : PySem.W.typeIn K (.ref CA) = some (.type "type")
  iA : ExcC K CA
  eAA : PySem.W.exmOne K (.ref CA) (.ref CA) = some true
  eNA : PySem.W.exmOne K (.ref CN) (.ref CA) = some false
  eNN : PySem.W.exmOne K (.ref CN) (.ref CN) = some true
  oAF : PySem.W.kitOne K (.ref CA) (.ref CF) = some true
  oAV : PySem.W.kitOne K (.ref CA) (.type "ValueError") = some true
theorem Item.tuple_no {K : PySem.W.Frag} {H : Hp} {a : Addr} {xs : List V} {o : Option Int} (e : H a = some (.tup xs)) (it : Item K H (.ref a) o) : o = none := by
  cases it
  rfl
section
variable {P : Program} {w : World} {K : PySem.W.Frag} {mg : Str → Option Value} {base : Heap}
/-! ### is_pair: isinstance(value, tuple) and len(value) == 2 and is_whole(value[0]) and is_whole(value[1]) -/
def spPair (K : PySem.W.Frag) : Sp := fun vs H Q _ => ∃ x o, vs = [x] ∧ Two K H x o ∧ Q (.bl (pairB o)) H
theorem scPair : FnScope ["value"] ["value"] (defScope tPair) := ⟨rfl, rfl, rfl, by decide +kernel, rfl, by decide +kernel, by decide +kernel⟩
theorem ok_pair {f fW : Addr} {fd fdW : FuncData} (F : Fun K "is_pair" "is_pair" tPair f fd) (T : Txt K mg) (GW : FnOk P w K mg base CX0 1 fW fdW ["value"] (spWhole K)) (kW : PySem.W.keepIn K (.ref fW) = true) (bW : Binds K fdW ["value"] []) (gW : mg "is_whole" = some (.ref fW)) :
    FnOk P w K mg base CX0 2 f fd ["value"] (spPair K) := by
  refine F.ok scPair (fun vs H Q E h => ?_) (fun cdv A outer s H vs Q E hr h => ?_)
  · obtain ⟨x, o, rfl, _⟩ := h
    rfl
  · obtain ⟨x, o, rfl, it, k⟩ := h
    refine ⟨_, pss_one (ps_ret (pe_and (pe_callB call_isi (by rfl) T.isi (by decide +kernel) (pa_cons (pv 0) (pa_cons (pe_bltn (v := .ty "tuple") (by rfl) T.tuple (by decide +kernel) rfl) pa_nil)))
      (pe_and (pe_cmpR op_eq (pe_callB call_len_seq (by rfl) T.len PySem.boot_len (pa_cons (pv 0) pa_nil)) pe_int (nomark _))
      (pe_and (pe_call GW hr rfl gW kW bW .nil pass0 (pa_cons (pe_ix ix_tup (pv 0) pe_int (fun _ _ => rfl)) pa_nil))
      (pe_one (pe_call GW hr rfl gW kW bW .nil pass0 (pa_cons (pe_ix ix_tup (pv 0) pe_int (fun _ _ => rfl)) pa_nil))))))), ?_⟩
    cases it with
    | @no _ n t m =>
      simp only [List.mem_cons, List.not_mem_nil, or_false] at m
      rcases m with rfl | rfl | rfl | rfl | rfl | rfl
      all_goals
        exact ⟨_, rfl, _, _, _, _, _, rfl, ClsV.ty _, t, kit_ty (r := false) (by decide +kernel), _, rfl, iteF k⟩
    | @tup a xs e l =>
      refine ⟨_, rfl, _, _, _, _, _, rfl, ClsV.ty _, .base (.tup e), kit_ty (r := true) (by decide +kernel), _, rfl, iteT ?_⟩
      refine ⟨_, rfl, a, xs, rfl, .inr (SqT.of e), rfl, _, rfl, ?_⟩
      have ne : ¬ V.int (xs.length : Int) = V.int 2 := by
        intro z
        have z2 := V.int.inj z
        omega
      rw [decide_eq_false ne]
      exact iteF k
    | @two a x y ox oy e hx hy =>
      refine ⟨_, rfl, _, _, _, _, _, rfl, ClsV.ty _, .base (.tup e), kit_ty (r := true) (by decide +kernel), _, rfl, iteT ?_⟩
      refine ⟨_, rfl, a, [x, y], rfl, .inr (SqT.of e), rfl, _, rfl, iteT ?_⟩
      refine ⟨_, rfl, a, [x, y], 0, x, rfl, rfl, SqT.of e, atI_nat (j := 0) rfl, x, ox, rfl, hx, _, rfl, ?_⟩
      cases ox with
      | none => exact iteF k
      | some i =>
        refine iteT ⟨_, rfl, a, [x, y], 1, y, rfl, rfl, SqT.of e, atI_nat (j := 1) rfl, y, oy, rfl, hy, ?_⟩
        cases oy with
        | none => exact k
        | some j => exact k
/-! ### is_place: is_pair(value) and is_integer(value[0]) and is_integer(value[1]) -/
def spPlace (K : PySem.W.Frag) : Sp := fun vs H Q _ => ∃ x o, vs = [x] ∧ Two K H x o ∧ Q (.bl (placeB o)) H
theorem scPlace : FnScope ["value"] ["value"] (defScope tPlace) := ⟨rfl, rfl, rfl, by decide +kernel, rfl, by decide +kernel, by decide +kernel⟩
theorem ok_place {f fP fI : Addr} {fd fdP fdI : FuncData} (F : Fun K "is_place" "is_place" tPlace f fd) (GP : FnOk P w K mg base CX0 2 fP fdP ["value"] (spPair K)) (kP : PySem.W.keepIn K (.ref fP) = true) (bP : Binds K fdP ["value"] []) (gP : mg "is_pair" = some (.ref fP))
    (GI : FnOk P w K mg base CX0 2 fI fdI ["value"] (spInteger K)) (kI : PySem.W.keepIn K (.ref fI) = true) (bI : Binds K fdI ["value"] []) (gI : mg "is_integer" = some (.ref fI)) :
    FnOk P w K mg base CX0 3 f fd ["value"] (spPlace K) := by
  refine F.ok scPlace (fun vs H Q E h => ?_) (fun cdv A outer s H vs Q E hr h => ?_)
  · obtain ⟨x, o, rfl, _⟩ := h
    rfl
  · obtain ⟨x, o, rfl, it, k⟩ := h
    refine ⟨_, pss_one (ps_ret (pe_and (pe_call GP hr rfl gP kP bP .nil pass0 (pa_cons (pv 0) pa_nil))
      (pe_and (pe_call GI hr rfl gI kI bI .nil pass0 (pa_cons (pe_ix ix_tup (pv 0) pe_int (fun _ _ => rfl)) pa_nil))
      (pe_one (pe_call GI hr rfl gI kI bI .nil pass0 (pa_cons (pe_ix ix_tup (pv 0) pe_int (fun _ _ => rfl)) pa_nil)))))), ?_⟩
    refine ⟨_, rfl, x, o, rfl, it, _, rfl, ?_⟩
    cases it with
    | no t m => exact iteF k
    | tup e l => exact iteF k
    | @two a x y ox oy e hx hy =>
      cases ox with
      | none => exact iteF k
      | some i =>
        cases oy with
        | none =>
          have z : placeB (some (some i, none)) = false := by
            show (small (some i) && false) = false
            exact Bool.and_false _
          rw [z] at k
          exact iteF k
        | some j =>
          refine iteT ⟨_, rfl, a, [x, y], 0, x, rfl, rfl, SqT.of e, atI_nat (j := 0) rfl, x, some i, rfl, hx, _, rfl, ?_⟩
          cases c : small (some i) with
          | false =>
            have z : placeB (some (some i, some j)) = false := by
              show (small (some i) && small (some j)) = false
              rw [c, Bool.false_and]
            rw [z] at k
            exact iteF k
          | true =>
            have z : placeB (some (some i, some j)) = small (some j) := by
              show (small (some i) && small (some j)) = small (some j)
              rw [c, Bool.true_and]
            rw [z] at k
            exact iteT ⟨_, rfl, a, [x, y], 1, y, rfl, rfl, SqT.of e, atI_nat (j := 1) rfl, y, some j, rfl, hy, k⟩
/-! ### cell_of -/
def spCell (K : PySem.W.Frag) (CA CN : Addr) : Sp := fun vs H Q E => ∃ x y p q, vs = [x, y] ∧ Two K H x p ∧ Item K H y q ∧ (placeB p = false → E (.ref CA) none H) ∧
  (placeB p = true → small q = false → ∀ d, H d = none → E (.ref CN) (some d) (upd H d (.xd [(("value" : Str), y)]))) ∧
  ∀ a b i, p = some (some a, some b) → q = some i → inB a = true → inB b = true → inB i = true → Q (.int (a * i + b)) H
theorem placeB_cases {p : Option (Option Int × Option Int)} (h : placeB p = true) : ∃ a b, p = some (some a, some b) ∧ inB a = true ∧ inB b = true := by
  cases p with
  | none => cases h
  | some v =>
    obtain ⟨x, y⟩ := v
    have h2 : (small x && small y) = true := h
    rw [Bool.and_eq_true] at h2
    obtain ⟨hx, hy⟩ := h2
    cases x with
    | none => cases hx
    | some a =>
      cases y with
      | none => cases hy
      | some b => exact ⟨a, b, rfl, hx, hy⟩
theorem inB_iff {i : Int} : inB i = true ↔ -(10 ^ 30) < i ∧ i < 10 ^ 30 := by
  unfold inB
  rw [Bool.and_eq_true, decide_eq_true_eq, decide_eq_true_eq]
theorem inB_abs {i : Int} (h : inB i = true) : i.natAbs < 2 ^ 100 := by
  have h2 := inB_iff.mp h
  have e : (10 : Int) ^ 30 = 1000000000000000000000000000000 := by decide
  have e2 : (2 : Nat) ^ 100 = 1267650600228229401496703205376 := by decide
  rw [e] at h2
  rw [e2]
  omega
theorem scCell : FnScope ["place", "number"] ["place", "number"] (defScope tCell) := ⟨rfl, rfl, rfl, by decide +kernel, rfl, by decide +kernel, by decide +kernel⟩
theorem ok_cell {f fP fI CA CF CN fN : Addr} {fd fdP fdI : FuncData} (F : Fun K "cell_of" "cell_of" tCell f fd) (T : Errs K mg CA CF CN fN) (GP : FnOk P w K mg base CX0 3 fP fdP ["value"] (spPlace K)) (kP : PySem.W.keepIn K (.ref fP) = true) (bP : Binds K fdP ["value"] []) (gP : mg "is_place" = some (.ref fP))
    (GI : FnOk P w K mg base CX0 2 fI fdI ["value"] (spInteger K)) (kI : PySem.W.keepIn K (.ref fI) = true) (bI : Binds K fdI ["value"] []) (gI : mg "is_integer" = some (.ref fI)) :
    FnOk P w K mg base (L2.CX P w) 4 f fd ["place", "number"] (spCell K CA CN) := by
  refine F.okX scCell (fun vs H Q E h => ?_) (fun cdv A outer s H vs Q E hr h => ?_)
  · obtain ⟨x, y, p, q, rfl, _⟩ := h
    rfl
  · obtain ⟨x, y, p, q, rfl, tx, ty, k1, k2, k3⟩ := h
    have hr2 : Room 2 _ := hr.mono (by decide)
    have hr1 : Room 1 _ := hr.mono (by decide)
    refine ⟨_, pss_cons (ps_if (pt_not (pt_val (pe_call GP hr rfl gP kP bP .nil pass0 (pa_cons (pv 0) pa_nil)))) (pss_one (ps_raise rfl (takes_of rfl rfl rfl rfl) (pmk_own PySem.F.excBase_ValueError T.xA T.gA T.kA (raises_own T.bA T.tA) rfl))) pss_nil)
      (pss_cons (ps_if (pt_not (pt_val (pe_call GI hr2 rfl gI kI bI .nil pass0 (pa_cons (pv 1) pa_nil)))) (pss_one (ps_raiseErr PySem.F.excBase_RuntimeError PySem.F.store_RuntimeError rfl T.num hr1 (takes_of rfl rfl rfl rfl) (pa_cons (pv 1) pa_nil) rfl)) pss_nil)
      (pss_one (ps_ret (pe_op op_add (pe_op op_mulW (pe_ix ix_tup (pv 0) pe_int (fun _ _ => rfl)) (pv 1)) (pe_ix ix_tup (pv 0) pe_int (fun _ _ => rfl)))))), ?_⟩
    refine ⟨_, rfl, x, p, rfl, tx, _, rfl, ?_⟩
    cases cp : placeB p with
    | false => exact iteT (k1 cp)
    | true =>
      refine iteF ⟨_, rfl, y, q, rfl, ty, _, rfl, ?_⟩
      cases cq : small q with
      | false => exact iteT ⟨_, rfl, _, rfl, fun d hd => k2 cp cq d hd⟩
      | true =>
        refine iteF ?_
        obtain ⟨a, b, rfl, ha, hb⟩ := placeB_cases cp
        cases q with
        | none => cases cq
        | some i =>
          have hi : inB i = true := cq
          cases ty with
          | int _ =>
          cases tx with
          | @two l x y ox oy e hx hy =>
            cases hx with
            | int _ =>
            cases hy with
            | int _ =>
              exact ⟨_, rfl, l, _, 0, _, rfl, rfl, SqT.of e, atI_nat (j := 0) rfl, _, rfl, _, _, rfl, rfl, wide_mul (inB_abs ha) (inB_abs hi) (by decide) (by decide) (by decide), _, rfl, l, _, 1, _, rfl, rfl, SqT.of e, atI_nat (j := 1) rfl, _, _, rfl, rfl, k3 a b i rfl rfl ha hb hi⟩
end
end K9
namespace K9
open PySem L2
open L2.My
/-! ### the dice: a list of three ints -/
def Dice (H : Hp) (p : Addr) : Prop := ∃ a b c : Int, H p = some (.lst [.int a, .int b, .int c]) ∧ 0 ≤ a ∧ 0 ≤ b ∧ b < 2147483629
/-- all but the dice at p is as it was -/
def But (p : Addr) (H H' : Hp) : Prop := ∀ q, q ≠ p → H' q = H q
structure Bl (mg : Str → Option Value) : Prop where
  int : mg "int" = none
  abs : mg "abs" = none
  max : mg "max" = none
  range : mg "range" = none
  list : mg "list" = none
  len : mg "len" = none
section
variable {P : Program} {w : World} {K : PySem.W.Frag} {mg : Str → Option Value} {base : Heap}
def spDice : Sp := fun vs H Q _ => ∃ n : Int, vs = [.int n] ∧ ∀ p H', H p = none → Dice H' p → But p H H' → Q (.ref p) H'
theorem scDice : FnScope ["_law_cell", "_law_number"] ["_law_cell"] (defScope tDice) := ⟨rfl, rfl, rfl, by decide +kernel, rfl, by decide +kernel, by decide +kernel⟩
theorem ok_dice {f : Addr} {fd : FuncData} (F : Fun K "_law_dice" "_law_dice" tDice f fd) (T : Bl mg) : FnOk P w K mg base CX0 1 f fd ["_law_cell"] spDice := by
  refine F.ok scDice (fun vs H Q E h => ?_) (fun cdv A outer s H vs Q E hr h => ?_)
  · obtain ⟨n, rfl, _⟩ := h
    rfl
  · obtain ⟨n, rfl, k⟩ := h
    refine ⟨_, pss_cons (ps_set (i := 1) scDice.nd rfl (.inl rfl) (pe_callTy call_int1 (by rfl) T.int (by decide +kernel) (pa_cons (pe_callB call_abs (by rfl) T.abs (by decide +kernel) (pa_cons (pv 0) pa_nil)) pa_nil)))
      (pss_one (ps_ret (pe_lst (pa_cons (pe_callB (call_max2 rfl) (by rfl) T.max (by decide +kernel) (pa_cons pe_int (pa_cons (pe_op op_sub (pv 1) (pe_op op_pow pe_int pe_int)) pa_nil)))
        (pa_cons (pe_op op_mod (pe_callTy call_int1 (by rfl) T.int (by decide +kernel) (pa_cons (pe_op op_add (pe_op op_mul (pv 1) pe_int) (pe_callTy call_int1 (by rfl) T.int (by decide +kernel) (pa_cons (pe_cmpR op_lt (pv 0) pe_int (nomark _)) pa_nil))) pa_nil)) pe_int)
        (pa_cons pe_int pa_nil)))))), ?_⟩
    refine ⟨_, rfl, _, rfl, .inl ⟨_, rfl, ?_⟩⟩
    refine ⟨_, rfl, _, _, rfl, rfl, ⟨by decide, by decide, by decide⟩, _, _, rfl, rfl, _, _, rfl, ?_⟩
    refine ⟨_, rfl, _, _, rfl, rfl, .inr ⟨by decide, by decide⟩, _, rfl, _, _, rfl, rfl, .inr ⟨_, rfl, _, _, rfl, rfl, .inl ⟨_, rfl, _, _, rfl, rfl, (by show (0 : Int) < 2147483629; decide), ?_⟩⟩⟩
    refine ⟨(by show 3 ≤ sizeLine; decide), fun p hp => k p _ hp ⟨_, _, _, upd_same, ?_, ?_, ?_⟩ fun q hq => upd_ne hq⟩
    · split <;> omega
    · exact Int.emod_nonneg _ (by decide)
    · exact Int.emod_lt_of_pos _ (by decide)
def spNext : Sp := fun vs H Q _ => ∃ (p : Addr) (m : Int), vs = [.ref p, .int m] ∧ 0 < m ∧ m < 1073741824 ∧ Dice H p ∧ ∀ r H', 0 ≤ r → r < m → Dice H' p → But p H H' → Q (.int r) H'
theorem scNext : FnScope ["_law_dice_here", "_law_many", "_law_found", "_law_mixed"] ["_law_dice_here", "_law_many"] (defScope tNextD) := ⟨rfl, rfl, rfl, by decide +kernel, rfl, by decide +kernel, by decide +kernel⟩
theorem ok_next {f : Addr} {fd : FuncData} (F : Fun K "_law_next" "_law_next" tNextD f fd) (T : Bl mg) : FnOk P w K mg base CX0 1 f fd ["_law_dice_here", "_law_many"] spNext := by
  refine F.ok scNext (fun vs H Q E h => ?_) (fun cdv A outer s H vs Q E hr h => ?_)
  · obtain ⟨p, m, rfl, _⟩ := h
    rfl
  · obtain ⟨p, m, rfl, m0, m1, ⟨a, b, c, e, a0, b0, b1⟩, k⟩ := h
    have m2 : m ≠ 0 := by omega
    refine ⟨_, pss_cons (ps_if (pt_cmpR op_gt (pe_ix ix_list (pv 0) pe_int (fun _ _ => rfl)) pe_int (nomark _))
        (pss_cons (ps_set (i := 2) scNext.nd rfl (.inl rfl) (pe_op op_modN (pe_callTy call_int1 (by rfl) T.int (by decide +kernel) (pa_cons (pe_ix ix_list (pv 0) pe_int (fun _ _ => rfl)) pa_nil)) (pv 1)))
        (pss_cons (ps_asg (pe_op op_fdivN (pe_ix ix_list (pv 0) pe_int (fun _ _ => rfl)) (pv 1)) (pg_sub (pv 0) pe_int set_list))
        (pss_one (ps_ret (pv 2))))) pss_nil)
      (pss_cons (ps_asg (pe_op op_add (pe_ix ix_list (pv 0) pe_int (fun _ _ => rfl)) pe_int) (pg_sub (pv 0) pe_int set_list))
      (pss_cons (ps_set (i := 3) scNext.nd rfl (.inl rfl) (pe_op op_mod (pe_callTy call_int1 (by rfl) T.int (by decide +kernel) (pa_cons (pe_op op_mul (pe_op op_add (pe_ix ix_list (pv 0) pe_int (fun _ _ => rfl)) pe_int) (pe_op op_add (pe_op op_mul (pe_ix ix_list (pv 0) pe_int (fun _ _ => rfl)) pe_int) pe_int)) pa_nil)) pe_int))
      (pss_cons (ps_set (i := 3) scNext.nd rfl (.inl rfl) (pe_op op_mod (pe_callTy call_int1 (by rfl) T.int (by decide +kernel) (pa_cons (pe_op op_add (pe_op op_mul (pv 3) (pv 3)) (pe_op op_mul (pe_ix ix_list (pv 0) pe_int (fun _ _ => rfl)) pe_int)) pa_nil)) pe_int))
      (pss_one (ps_ret (pe_op op_modN (pe_callTy call_int1 (by rfl) T.int (by decide +kernel) (pa_cons (pe_op op_fdiv (pv 3) pe_int) pa_nil)) (pv 1))))))), ?_⟩
    refine ⟨_, rfl, p, _, 0, _, rfl, rfl, SqL.of e, atI_nat (j := 0) rfl, _, _, rfl, rfl, _, rfl, ite2 (fun c0 => ?_) (fun c0 => ?_)⟩
    · refine ⟨_, rfl, p, _, 0, _, rfl, rfl, SqL.of e, atI_nat (j := 0) rfl, .inl ⟨_, rfl, _, rfl, _, _, rfl, rfl, m2, ?_⟩⟩
      refine ⟨_, rfl, p, _, 0, _, rfl, rfl, SqL.of e, atI_nat (j := 0) rfl, _, rfl, _, _, rfl, rfl, ⟨m2, by omega⟩, _, rfl, p, _, _, 0, rfl, rfl, e, rfl, ?_⟩
      refine ⟨_, rfl, k _ _ (Int.fmod_nonneg_of_pos _ m0) (Int.fmod_lt_of_pos _ m0) ⟨_, b, c, upd_same, Int.fdiv_nonneg a0 (by omega), b0, b1⟩ fun q hq => upd_ne hq⟩
    · refine ⟨_, rfl, p, _, 2, _, rfl, rfl, SqL.of e, atI_nat (j := 2) rfl, _, _, rfl, rfl, _, rfl, p, _, _, 2, rfl, rfl, e, rfl, ?_⟩
      have e2 : (upd H p (.lst [.int a, .int b, .int (c + 1)])) p = some (.lst [.int a, .int b, .int (c + 1)]) := upd_same
      refine ⟨_, rfl, p, _, 1, _, rfl, rfl, SqL.of e2, atI_nat (j := 1) rfl, _, _, rfl, rfl, ?_⟩
      refine ⟨_, rfl, p, _, 2, _, rfl, rfl, SqL.of e2, atI_nat (j := 2) rfl, _, _, rfl, rfl, .inr ⟨by decide, by decide⟩, _, _, rfl, rfl, _, _, rfl, rfl, .inl ⟨by omega, by omega⟩, .inl ⟨_, rfl, _, _, rfl, rfl, (by show (0 : Int) < 2147483587; decide), ?_⟩⟩
      have x0 : 0 ≤ ((b + 40503) * ((c + 1) * 69621 + 1013)) % 2147483587 := Int.emod_nonneg _ (by decide)
      have x1 : ((b + 40503) * ((c + 1) * 69621 + 1013)) % 2147483587 < 2147483587 := Int.emod_lt_of_pos _ (by decide)
      refine ⟨_, rfl, _, rfl, _, _, rfl, rfl, .inl ⟨by omega, by omega⟩, ?_⟩
      refine ⟨_, rfl, p, _, 2, _, rfl, rfl, SqL.of e2, atI_nat (j := 2) rfl, _, _, rfl, rfl, .inr ⟨by decide, by decide⟩, _, _, rfl, rfl, .inl ⟨_, rfl, _, _, rfl, rfl, (by show (0 : Int) < 2147483579; decide), ?_⟩⟩
      refine ⟨_, rfl, _, _, rfl, rfl, ⟨by decide, by decide⟩, .inl ⟨_, rfl, _, rfl, _, _, rfl, rfl, m2, ?_⟩⟩
      exact k _ _ (Int.fmod_nonneg_of_pos _ m0) (Int.fmod_lt_of_pos _ m0) ⟨a, b, _, e2, a0, b0, b1⟩ fun q hq => upd_ne hq
/-! ### draws -/
def spDraw : Sp := fun vs H Q _ => ∃ p : Addr, vs = [.ref p] ∧ Dice H p ∧ ∀ r H', -(10 ^ 18) < r → r < 10 ^ 18 → Dice H' p → But p H H' → Q (.int r) H'
theorem But.trans {p : Addr} {H H1 H2 : Hp} (a : But p H H1) (b : But p H1 H2) : But p H H2 := fun q hq => (b q hq).trans (a q hq)
theorem scGreat : FnScope ["_law_dice_here", "_law_number", "_law_turn"] ["_law_dice_here"] (defScope tGreat) := ⟨rfl, rfl, rfl, by decide +kernel, rfl, by decide +kernel, by decide +kernel⟩
theorem ok_great {f fX : Addr} {fd fdX : FuncData} (F : Fun K "_law_great" "_law_great" tGreat f fd) (T : Bl mg) (GX : FnOk P w K mg base CX0 1 fX fdX ["_law_dice_here", "_law_many"] spNext) (kX : PySem.W.keepIn K (.ref fX) = true) (bX : Binds K fdX ["_law_dice_here", "_law_many"] []) (gX : mg "_law_next" = some (.ref fX)) :
    FnOk P w K mg base CX0 2 f fd ["_law_dice_here"] spDraw := by
  refine F.ok scGreat (fun vs H Q E h => ?_) (fun cdv A outer s H vs Q E hr h => ?_)
  · obtain ⟨p, rfl, _⟩ := h
    rfl
  · obtain ⟨p, rfl, d, k⟩ := h
    refine ⟨_, pss_cons (ps_set (i := 1) scGreat.nd rfl (.inl rfl) pe_int)
      (pss_cons (ps_for PassesOwn.never rfl (pi_range1 rfl T.range (pa_cons pe_int pa_nil)) (pg_name (i := 2) scGreat.nd rfl (.inl rfl))
        (pss_one (ps_set (i := 1) scGreat.nd rfl (.inl rfl) (pe_op op_add (pe_op op_mul (pv 1) (pe_op op_pow pe_int pe_int)) (pe_call GX hr rfl gX kX bX .nil pass0 (pa_cons (pv 0) (pa_cons (pe_op op_pow pe_int pe_int) pa_nil)))))))
      (pss_one (ps_ret (pe_ifExp (pt_cmpR op_eq (pe_call GX hr rfl gX kX bX .nil pass0 (pa_cons (pv 0) (pa_cons pe_int pa_nil))) pe_int (nomark _)) (pe_un un_neg (pv 1)) (pv 1))))), ?_⟩
    refine ⟨3, rfl, by decide, by decide, for_range (n := 3) (fun i σ H' => ∃ (n : Int) (v : Option V), σ = [some (.ref p), some (.int n), v] ∧ 0 ≤ n ∧ n < (10 ^ 6) ^ i ∧ Dice H' p ∧ But p H H')
      ⟨0, none, rfl, by decide, by decide, d, fun _ _ => rfl⟩ ?_ ?_⟩
    · rintro i σ H1 hi ⟨n, v, rfl, n0, n1, d1, u1⟩
      refine ⟨_, rfl, _, _, rfl, rfl, ⟨by decide, by decide, by decide⟩, _, _, rfl, rfl, .inr ⟨by decide, by decide⟩, _, rfl, _, _, rfl, rfl, ⟨by decide, by decide, by decide⟩, p, 10 ^ 6, rfl, by decide, by decide, d1, fun r H2 r0 r1 d2 u2 => ?_⟩
      refine ⟨_, _, rfl, rfl, ?_⟩
      refine ⟨_, _, rfl, ?_, ?_, d2, u1.trans u2⟩
      · have : 0 ≤ n * 10 ^ 6 := Int.mul_nonneg n0 (by decide)
        have e : ((10 : Int) ^ (6 : Int).toNat) = 10 ^ 6 := rfl
        rw [e]
        omega
      · have e : ((10 : Int) ^ (6 : Int).toNat) = 10 ^ 6 := rfl
        have e4 : ((10 : Int) ^ 6) ^ (i + 1) = (10 ^ 6) ^ i * 10 ^ 6 := Int.pow_succ _ _
        rw [e, e4]
        have n2 : n + 1 ≤ (10 ^ 6) ^ i := n1
        have n3 : (n + 1) * 10 ^ 6 ≤ (10 ^ 6) ^ i * 10 ^ 6 := Int.mul_le_mul_of_nonneg_right n2 (by decide)
        rw [Int.add_mul, Int.one_mul] at n3
        omega
    · rintro σ H1 ⟨n, v, rfl, n0, n1, d1, u1⟩
      have e3 : ((10 : Int) ^ 6) ^ 3 = 10 ^ 18 := by decide
      rw [e3] at n1
      refine ⟨_, rfl, p, 2, rfl, by decide, by decide, d1, fun r H2 r0 r1 d2 u2 => ?_⟩
      refine ⟨rfl, _, rfl, ite2 (fun _ => ?_) (fun _ => ?_)⟩
      · exact ⟨_, rfl, _, rfl, k _ _ (by omega) (by omega) d2 (u1.trans u2)⟩
      · exact ⟨_, rfl, k _ _ (by omega) (by omega) d2 (u1.trans u2)⟩
theorem scWholeD : FnScope ["_law_dice_here", "_law_way"] ["_law_dice_here"] (defScope tWholeD) := ⟨rfl, rfl, rfl, by decide +kernel, rfl, by decide +kernel, by decide +kernel⟩
theorem ok_wholeD {f fX fG : Addr} {fd fdX fdG : FuncData} (F : Fun K "_law_whole" "_law_whole" tWholeD f fd) (GX : FnOk P w K mg base CX0 1 fX fdX ["_law_dice_here", "_law_many"] spNext) (kX : PySem.W.keepIn K (.ref fX) = true) (bX : Binds K fdX ["_law_dice_here", "_law_many"] []) (gX : mg "_law_next" = some (.ref fX))
    (GG : FnOk P w K mg base CX0 2 fG fdG ["_law_dice_here"] spDraw) (kG : PySem.W.keepIn K (.ref fG) = true) (bG : Binds K fdG ["_law_dice_here"] []) (gG : mg "_law_great" = some (.ref fG)) :
    FnOk P w K mg base CX0 3 f fd ["_law_dice_here"] spDraw := by
  refine F.ok scWholeD (fun vs H Q E h => ?_) (fun cdv A outer s H vs Q E hr h => ?_)
  · obtain ⟨p, rfl, _⟩ := h
    rfl
  · obtain ⟨p, rfl, d, k⟩ := h
    have hr1 : Room 1 _ := hr.mono (by decide)
    refine ⟨_, pss_cons (ps_set (i := 1) scWholeD.nd rfl (.inl rfl) (pe_call GX hr1 rfl gX kX bX .nil pass0 (pa_cons (pv 0) (pa_cons pe_int pa_nil))))
      (pss_cons (ps_if (pt_cmpR op_lt (pv 1) pe_int (nomark _)) (pss_one (ps_ret (pe_op op_sub (pe_call GX hr1 rfl gX kX bX .nil pass0 (pa_cons (pv 0) (pa_cons pe_int pa_nil))) pe_int))) pss_nil)
      (pss_one (ps_ret (pe_ifExp (pt_cmpR op_eq (pv 1) pe_int (nomark _)) (pe_op op_sub (pe_call GX hr1 rfl gX kX bX .nil pass0 (pa_cons (pv 0) (pa_cons pe_int pa_nil))) pe_int) (pe_call GG hr rfl gG kG bG .nil pass0 (pa_cons (pv 0) pa_nil)))))), ?_⟩
    refine ⟨_, rfl, p, 4, rfl, by decide, by decide, d, fun r H1 r0 r1 d1 u1 => ?_⟩
    refine ⟨_, rfl, _, _, rfl, rfl, _, rfl, ite2 (fun _ => ?_) (fun _ => ?_)⟩
    · refine ⟨_, rfl, p, 13, rfl, by decide, by decide, d1, fun r2 H2 r3 r4 d2 u2 => ?_⟩
      exact ⟨_, _, rfl, rfl, k _ _ (by omega) (by omega) d2 (u1.trans u2)⟩
    · refine ⟨_, rfl, rfl, _, rfl, ite2 (fun _ => ?_) (fun _ => ?_)⟩
      · refine ⟨_, rfl, p, 2001, rfl, by decide, by decide, d1, fun r2 H2 r3 r4 d2 u2 => ?_⟩
        exact ⟨_, _, rfl, rfl, k _ _ (by omega) (by omega) d2 (u1.trans u2)⟩
      · exact ⟨_, rfl, p, rfl, d1, fun r2 H2 r3 r4 d2 u2 => k _ _ r3 r4 d2 (u1.trans u2)⟩
end
end K9
namespace K9
open PySem L2
open L2.My
/-! ### growing heaps -/
theorem grow {H : Hp} {p : Addr} {o : HO} (hp : H p = none) : Same H (upd H p o) := fun b u e => by rw [upd_ne (ne_of_none e hp)]; exact e
theorem fresh {Q : V → Hp → Prop} {H : Hp} {o : HO} (k : ∀ p H', Same H H' → H p = none → H' p = some o → (∀ q, q ≠ p → H' q = H q) → Q (.ref p) H') : ∀ p, H p = none → Q (.ref p) (upd H p o) :=
  fun p hp => k p _ (grow hp) hp upd_same fun q hq => upd_ne hq
theorem But.same {p : Addr} {H H1 : Hp} (u : But p H H1) (d : H p = none) : Same H H1 := fun b o e => (u b (ne_of_none e d)).trans e
section
variable {K : PySem.W.Frag} {H H' : Hp}
theorem TyX.same {x : V} {t : Value} (s : Same H H') (h : TyX K H x t) : TyX K H' x t := by
  cases h with
  | base b =>
    refine .base ?_
    cases b with
    | non => exact .non
    | bl x => exact .bl x
    | int i => exact .int i
    | str x => exact .str x
    | flt x => exact .flt x
    | lst e => exact .lst (s _ _ e)
    | frz e => exact .frz (s _ _ e)
    | tup e => exact .tup (s _ _ e)
    | dK e => exact .dK (s _ _ e)
    | dT e => exact .dT (s _ _ e)
    | ins e cl ha hn ht hm => exact .ins (s _ _ e) cl ha hn ht hm
  | byt b => exact .byt b
  | set e => exact .set (s _ _ e)
  | kList e c => exact .kList e c
  | kTuple e c => exact .kTuple e c
  | kDict e c => exact .kDict e c
  | fTuple e => exact .fTuple (s _ _ e)
  | fDict e => exact .fDict (s _ _ e)
theorem Item.same {x : V} {o : Option Int} (s : Same H H') (h : Item K H x o) : Item K H' x o := by
  cases h with
  | int i => exact .int i
  | other t m => exact .other (TyX.same s t) m
theorem Two.same {x : V} {o : Option (Option Int × Option Int)} (s : Same H H') (h : Two K H x o) : Two K H' x o := by
  cases h with
  | no t m => exact .no (TyX.same s t) m
  | tup e l => exact .tup (s _ _ e) l
  | two e hx hy => exact .two (s _ _ e) (hx.same s) (hy.same s)
theorem Item.bl (b : Bool) : Item K H (.bl b) none := .other (.base (.bl b)) (by decide)
theorem Item.non : Item K H .non none := .other (.base .non) (by decide)
theorem Item.str (z : Str) : Item K H (.str z) none := .other (.base (.str z)) (by decide)
theorem Item.tup {a : Addr} {xs : List V} (e : H a = some (.tup xs)) : Item K H (.ref a) none := .other (.base (.tup e)) (by decide)
theorem Item.big {i : Int} (h : inB i = false) : ∃ q, Item K H (.int i) q ∧ small q = false := ⟨_, .int i, h⟩
end
/-! ### cells -/
section
variable {P : Program} {w : World} {K : PySem.W.Frag} {mg : Str → Option Value} {base : Heap}
def Ints (xs : List V) : Prop := ∀ x ∈ xs, ∃ n : Int, x = .int n
def spCells (K : PySem.W.Frag) : Sp := fun vs H Q _ => ∃ (a : Addr) (ns : List Int), vs = [.ref a, .int 40] ∧ SqL K H a (ns.map V.int) ∧ ns.length ≤ 63 ∧
  ∀ p H' xs, Same H H' → H' p = some (.lst xs) → Ints xs → Q (.ref p) H'
theorem scCells : FnScope ["_law_script", "_law_most"] ["_law_script", "_law_most"] (defScope tCells) := ⟨rfl, rfl, rfl, by decide +kernel, rfl, by decide +kernel, by decide +kernel⟩
theorem ok_cells {f : Addr} {fd : FuncData} (F : Fun K "_law_cells" "_law_cells" tCells f fd) (T : Bl mg) : FnOk P w K mg base CX0 1 f fd ["_law_script", "_law_most"] (spCells K) := by
  refine F.ok scCells (fun vs H Q E h => ?_) (fun cdv A outer s H vs Q E hr h => ?_)
  · obtain ⟨a, ns, rfl, _⟩ := h
    rfl
  · obtain ⟨a, ns, rfl, hS, hl, k⟩ := h
    refine ⟨_, pss_one (ps_ret (pe_ifExp (pt_cmpR op_gt (pe_callB call_len_seq (by rfl) T.len PySem.boot_len (pa_cons (pv 0) pa_nil)) pe_int (nomark _))
      (pe_callTy call_list_of (by rfl) T.list (by decide +kernel) (pa_cons (pe_slice sl_list (pv 0) po_none (po_some (pv 1))) pa_nil))
      (pe_lst (pa_cons pe_int pa_nil)))), ?_⟩
    refine ⟨_, rfl, a, _, rfl, .inl hS, _, _, rfl, rfl, _, rfl, ite2 (fun _ => ?_) (fun _ => ?_)⟩
    · refine ⟨_, rfl, _, rfl, _, rfl, a, _, rfl, hS, fun p np => ⟨p, _, rfl, .inl (SqL.of upd_same), fun l nl => k l _ _ ((grow np).trans (grow nl)) upd_same ?_⟩⟩
      intro x hx
      obtain ⟨n, _, rfl⟩ := List.mem_map.mp (List.mem_of_mem_drop (List.mem_of_mem_take hx))
      exact ⟨n, rfl⟩
    · refine ⟨(by show 1 ≤ sizeLine; decide), fun l nl => k l _ _ (grow nl) upd_same ?_⟩
      intro x hx
      rw [List.mem_singleton] at hx
      exact ⟨_, hx⟩
/-! ### _law_is_count -/
theorem scCount : FnScope ["_law_value"] ["_law_value"] (defScope tCount) := ⟨rfl, rfl, rfl, by decide +kernel, rfl, by decide +kernel, by decide +kernel⟩
def spCount : Sp := fun vs H Q _ => ∃ i : Int, vs = [.int i] ∧ Q (.bl true) H
theorem ok_count {f : Addr} {fd : FuncData} (F : Fun K "_law_is_count" "_law_is_count" tCount f fd) (T : Txt K mg) : FnOk P w K mg base CX0 1 f fd ["_law_value"] spCount := by
  refine F.ok scCount (fun vs H Q E h => ?_) (fun cdv A outer s H vs Q E hr h => ?_)
  · obtain ⟨x, rfl, _⟩ := h
    rfl
  · obtain ⟨i, rfl, k⟩ := h
    refine ⟨_, pss_one (ps_ret (pe_and (pe_callB call_isi (by rfl) T.isi (by decide +kernel) (pa_cons (pv 0) (pa_cons (pe_bltn (v := .ty "int") (by rfl) T.int (by decide +kernel) rfl) pa_nil)))
      (pe_one (pe_not (pe_callB call_isi (by rfl) T.isi (by decide +kernel) (pa_cons (pv 0) (pa_cons (pe_bltn (v := .ty "bool") (by rfl) T.bool (by decide +kernel) rfl) pa_nil))))))), ?_⟩
    refine ⟨_, rfl, _, _, _, _, _, rfl, ClsV.ty _, .base (.int i), kit_ty (r := true) (by decide +kernel), _, rfl, iteT ?_⟩
    exact ⟨_, rfl, _, _, _, _, _, rfl, ClsV.ty _, .base (.int i), kit_ty (r := false) (by decide +kernel), _, rfl, k⟩
/-! ### _law_word: what the errors tell -/
def spWord (K : PySem.W.Frag) : Sp := fun vs H Q _ => ∃ x y p q, vs = [x, y] ∧ Two K H x p ∧ Item K H y q ∧ (placeB p = true → small q = false) ∧
  (placeB p = false → ∀ t H', Same H H' → H' t = some (.tup [.str "argument", .bl true]) → Q (.ref t) H') ∧
  (placeB p = true → ∀ t H', Same H H' → H' t = some (.tup [.str "number", y]) → Q (.ref t) H')
/-- isinstance(error, c) of the caught error of the class at D, without fields -/
def rIsD (K : PySem.W.Frag) (D a : Addr) (cls : Value) (d : Option Addr) : List V → Hp → VK → Prop := fun xs H Q => cls = .ref D ∧ d = none ∧ rIsE K D a xs H Q
theorem call_isD {X : Cx} {a D : Addr} {oe : Obj} {cls : Value} {d : Option Addr} {pn : List (Addr × Obj)} (C : ExcC X.K D) (hz : Zc cls d oe) (hf : ∃ vs, oe.data = .fields vs) : CallR (X.suite a ((a, oe) :: pn)) (.builtin "isinstance") (rIsD X.K D a cls d) := by
  intro pins s σ H xs us Q I r h
  obtain ⟨rfl, rfl, h⟩ := h
  exact call_isE C hz hf pins s σ H xs us Q I r h
theorem scWord : FnScope ["_law_place", "_law_number", "error"] ["_law_place", "_law_number"] (defScope tWord) := ⟨rfl, rfl, rfl, by decide +kernel, rfl, by decide +kernel, by decide +kernel⟩
theorem ok_word {f fC CA CF CN fN : Addr} {fd fdC : FuncData} (F : Fun K "_law_word" "_law_word" tWord f fd) (T : Txt K mg) (R : Errs K mg CA CF CN fN) (GC : FnOk P w K mg base (L2.CX P w) 4 fC fdC ["place", "number"] (spCell K CA CN)) (kC : PySem.W.keepIn K (.ref fC) = true) (bC : Binds K fdC ["place", "number"] []) (gC : mg "cell_of" = some (.ref fC)) :
    FnOk P w K mg base CX0 5 f fd ["_law_place", "_law_number"] (spWord K) := by
  refine F.ok scWord (fun vs H Q E h => ?_) (fun cdv A outer s H vs Q E hr h => ?_)
  · obtain ⟨x, y, p, q, rfl, _⟩ := h
    rfl
  · obtain ⟨x, y, p, q, rfl, tx, ty, k1, k2, k3⟩ := h
    refine ⟨_, pss_cons (ps_try_clauses (n := "error") (i := 2) (tb := fun W => tDrop (tCallS (spCell K CA CN) (WE W) (tCons (tVar 0) (tCons (tVar 1) tNil)))) rfl rfl scWord.nd rfl rfl takes0
        (fun W pn xe tk _ => pss_one (ps_expr (pe_callS GC hr rfl gC kC bC (fun σ => passAt tk σ) (pa_cons (pv 0) (pa_cons (pv 1) pa_nil)))))
        (.cons ⟨rfl, by decide, .inl R.gA⟩ (fun a oe cls d pn hz hf => pss_one (ps_ret (pe_tup (pa_cons pe_str (pa_cons (pe_and (pe_callB (call_isD R.iA hz hf) (by rfl) T.isi (by decide +kernel) (pa_cons (pv 2) (pa_cons (pe_glob (v := .ref CF) rfl R.gF rfl) pa_nil)))
          (pe_one (pe_callB (call_isD R.iA hz hf) (by rfl) T.isi (by decide +kernel) (pa_cons (pv 2) (pa_cons (pe_bltn (v := .ty "ValueError") (by rfl) R.val (by decide +kernel) rfl) pa_nil))))) pa_nil)))))
        (.cons ⟨rfl, by decide, .inl R.num.gl⟩ (fun a oe cls d pn hz hf => pss_one (ps_ret (pe_tup (pa_cons pe_str (pa_cons (pe_ofErr R.num hz hf (pv 2)) pa_nil)))))
        .nil))) (pss_one (ps_ret (pe_tup (pa_cons pe_str (pa_cons pe_int pa_nil))))), ?_⟩
    refine ⟨_, rfl, _, rfl, x, y, p, q, rfl, tx, ty, fun cp => ?_, fun cp cq d hd => ?_, fun a b i ep eq ha hb hi => ?_⟩
    · refine ⟨true, R.eAA, fun _ e ne => ?_, fun z => Bool.noConfusion z⟩
      refine ⟨_, rfl, rfl, rfl, _, _, true, rfl, fun u ru => ru, R.oAF, _, rfl, iteT ⟨_, rfl, rfl, rfl, _, _, true, rfl, fun u ru => ru, R.oAV, ?_⟩⟩
      exact ⟨(by show 2 ≤ sizeLine; decide), fun t nt => k2 cp t _ (grow nt) upd_same⟩
    · refine ⟨false, R.eNA, fun z => Bool.noConfusion z, fun _ => ⟨true, R.eNN, fun _ e ne => ?_, fun z => Bool.noConfusion z⟩⟩
      refine ⟨_, rfl, rfl, rfl, d, _, rfl, upd_same, ?_⟩
      exact ⟨(by show 2 ≤ sizeLine; decide), fun t nt => k3 cp t _ ((grow hd).trans (grow nt)) upd_same⟩
    · subst ep eq
      have z : placeB (some (some a, some b)) = true := by
        show (inB a && inB b) = true
        rw [ha, hb]
        rfl
      have z2 : inB i = false := k1 z
      rw [hi] at z2
      cases z2
end
end K9
namespace K9
open PySem L2
open L2.My
theorem inB_top : inB (10 ^ 30) = false := by decide +kernel
theorem inB_bottom : inB (-(10 ^ 30)) = false := by decide +kernel
/-- no place -/
def NoPlace (K : PySem.W.Frag) (H : Hp) (x : V) : Prop := ∃ p, Two K H x p ∧ placeB p = false
section
variable {K : PySem.W.Frag} {H : Hp}
theorem NoPlace.same {H' : Hp} {x : V} (s : Same H H') (h : NoPlace K H x) : NoPlace K H' x := by
  obtain ⟨p, t, b⟩ := h
  exact ⟨p, t.same s, b⟩
theorem np_short {a : Addr} {xs : List V} (e : H a = some (.tup xs)) (l : xs.length ≠ 2) : NoPlace K H (.ref a) := ⟨_, .tup e l, rfl⟩
theorem np_left {a : Addr} {x y : V} {ox oy : Option Int} (e : H a = some (.tup [x, y])) (hx : Item K H x ox) (hy : Item K H y oy) (h : small ox = false) : NoPlace K H (.ref a) :=
  ⟨_, .two e hx hy, by show (small ox && small oy) = false; rw [h, Bool.false_and]⟩
theorem np_right {a : Addr} {x y : V} {ox oy : Option Int} (e : H a = some (.tup [x, y])) (hx : Item K H x ox) (hy : Item K H y oy) (h : small oy = false) : NoPlace K H (.ref a) :=
  ⟨_, .two e hx hy, by show (small ox && small oy) = false; rw [h, Bool.and_false]⟩
theorem np_ty {x : V} {n : String} (t : TyX K H x (.type n)) (m : n ∈ "int" :: kinds) : NoPlace K H x := ⟨_, .no t m, rfl⟩
end
section
variable {P : Program} {w : World} {K : PySem.W.Frag} {mg : Str → Option Value} {base : Heap}
/-! ### _law_odd -/
def spOdd (K : PySem.W.Frag) : Sp := fun vs H Q _ => ∃ (a : Addr) (i j : Int), vs = [.ref a] ∧ H a = some (.tup [.int i, .int j]) ∧
  ∀ l H' xs, Same H H' → H' l = some (.lst xs) → (∀ x ∈ xs, NoPlace K H' x) → Q (.ref l) H'
theorem scOdd : FnScope ["_law_place", "_law_step", "_law_offset", "_law_found"] ["_law_place"] (defScope tOdd) := ⟨rfl, rfl, rfl, by decide +kernel, rfl, by decide +kernel, by decide +kernel⟩
theorem ok_odd {f : Addr} {fd : FuncData} (F : Fun K "_law_odd" "_law_odd" tOdd f fd) : FnOk P w K mg base CX0 1 f fd ["_law_place"] (spOdd K) := by
  refine F.ok scOdd (fun vs H Q E h => ?_) (fun cdv A outer s H vs Q E hr h => ?_)
  · obtain ⟨a, i, j, rfl, _⟩ := h
    rfl
  · obtain ⟨a, i, j, rfl, e, k⟩ := h
    refine ⟨_, pss_cons (ps_asg (pv 0) (pg_tup rfl (pgs_cons (pg_name (i := 1) scOdd.nd rfl (.inl rfl)) (pgs_cons (pg_name (i := 2) scOdd.nd rfl (.inl rfl)) pgs_nil))))
      (pss_cons (ps_set (i := 3) scOdd.nd rfl (.inl rfl) (pe_lst (pa_cons (pe_tup (pa_cons (pv 1) pa_nil)) (pa_cons (pe_tup (pa_cons (pv 1) (pa_cons (pv 2) (pa_cons pe_int pa_nil)))) (pa_cons (pe_lst (pa_cons (pv 1) (pa_cons (pv 2) pa_nil)))
        (pa_cons (pe_tup (pa_cons (pv 1) (pa_cons pe_non pa_nil))) (pa_cons (pe_tup (pa_cons pe_str (pa_cons (pv 2) pa_nil))) (pa_cons (pe_tup (pa_cons pe_bl (pa_cons (pv 2) pa_nil))) (pa_cons (pe_tup (pa_cons (pv 1) (pa_cons pe_bl pa_nil))) pa_nil)))))))))
      (pss_cons (ps_expr (pe_bm PySem.F.plainAttrs_list PySem.F.slot_list_extend PySem.F.type_list_extend mt_extend (pv 3) (pa_cons (pe_lst
        (pa_cons (pe_tup (pa_cons (pe_op op_pow pe_int pe_int) (pa_cons (pv 2) pa_nil))) (pa_cons (pe_tup (pa_cons (pv 1) (pa_cons (pe_un un_neg (pe_op op_pow pe_int pe_int)) pa_nil))) (pa_cons (pe_tup (pa_cons (pe_tup (pa_cons (pv 1) (pa_cons (pv 2) pa_nil))) (pa_cons pe_int pa_nil)))
        (pa_cons (pe_tup pa_nil) (pa_cons pe_non (pa_cons pe_int (pa_cons pe_str (pa_cons pe_bl (pa_cons (pe_disp (pps_cons (pv 1) (pv 2) pps_nil) (by rfl) (by rfl) (fun z => by cases z) (by decide)) pa_nil)))))))))) pa_nil)))
      (pss_one (ps_ret (pv 3))))), ?_⟩
    refine ⟨_, rfl, a, _, rfl, SqT.of e, rfl, _, _, rfl, _, _, rfl, rfl, ?_⟩
    have two : (2 : Nat) ≤ sizeLine := by decide
    -- the seven
    refine ⟨_, rfl, (by show 1 ≤ sizeLine; decide), fun p1 n1 => ?_⟩
    have s1 := grow (o := HO.tup [V.int i]) n1
    have e1 : upd H p1 (HO.tup [V.int i]) p1 = _ := upd_same
    revert s1 e1
    generalize upd H p1 (HO.tup [V.int i]) = H1
    intro s1 e1
    refine ⟨_, rfl, _, rfl, (by show 3 ≤ sizeLine; decide), fun p2 n2 => ?_⟩
    have s2 := grow (o := HO.tup [V.int i, V.int j, V.int 0]) n2
    have e2 : upd H1 p2 (HO.tup [V.int i, V.int j, V.int 0]) p2 = _ := upd_same
    revert s2 e2
    generalize upd H1 p2 (HO.tup [V.int i, V.int j, V.int 0]) = H2
    intro s2 e2
    refine ⟨_, rfl, _, rfl, two, fun p3 n3 => ?_⟩
    have s3 := grow (o := HO.lst [V.int i, V.int j]) n3
    have e3 : upd H2 p3 (HO.lst [V.int i, V.int j]) p3 = _ := upd_same
    revert s3 e3
    generalize upd H2 p3 (HO.lst [V.int i, V.int j]) = H3
    intro s3 e3
    refine ⟨_, rfl, two, fun p4 n4 => ?_⟩
    have s4 := grow (o := HO.tup [V.int i, V.non]) n4
    have e4 : upd H3 p4 (HO.tup [V.int i, V.non]) p4 = _ := upd_same
    revert s4 e4
    generalize upd H3 p4 (HO.tup [V.int i, V.non]) = H4
    intro s4 e4
    refine ⟨_, rfl, two, fun p5 n5 => ?_⟩
    have s5 := grow (o := HO.tup [V.str "1", V.int j]) n5
    have e5 : upd H4 p5 (HO.tup [V.str "1", V.int j]) p5 = _ := upd_same
    revert s5 e5
    generalize upd H4 p5 (HO.tup [V.str "1", V.int j]) = H5
    intro s5 e5
    refine ⟨_, rfl, two, fun p6 n6 => ?_⟩
    have s6 := grow (o := HO.tup [V.bl true, V.int j]) n6
    have e6 : upd H5 p6 (HO.tup [V.bl true, V.int j]) p6 = _ := upd_same
    revert s6 e6
    generalize upd H5 p6 (HO.tup [V.bl true, V.int j]) = H6
    intro s6 e6
    refine ⟨_, rfl, two, fun p7 n7 => ?_⟩
    have s7 := grow (o := HO.tup [V.int i, V.bl false]) n7
    have e7 : upd H6 p7 (HO.tup [V.int i, V.bl false]) p7 = _ := upd_same
    revert s7 e7
    generalize upd H6 p7 (HO.tup [V.int i, V.bl false]) = H7
    intro s7 e7
    -- found
    refine ⟨(by show 7 ≤ sizeLine; decide), fun l nl => ?_⟩
    obtain ⟨fs, efs⟩ : ∃ fs, fs = [V.ref p1, V.ref p2, V.ref p3, V.ref p4, V.ref p5, V.ref p6, V.ref p7] := ⟨_, rfl⟩
    have no7 : ∀ x ∈ fs, NoPlace K H7 x := by
      intro x hx
      rw [efs] at hx
      simp only [List.mem_cons, List.not_mem_nil, or_false] at hx
      rcases hx with rfl | rfl | rfl | rfl | rfl | rfl | rfl
      · exact (np_short e1 (by show (1 : Nat) ≠ 2; decide)).same (s2.trans (s3.trans (s4.trans (s5.trans (s6.trans s7)))))
      · exact (np_short e2 (by show (3 : Nat) ≠ 2; decide)).same (s3.trans (s4.trans (s5.trans (s6.trans s7))))
      · exact (np_ty (.base (.lst e3)) (by decide)).same (s4.trans (s5.trans (s6.trans s7)))
      · exact (np_right e4 (.int i) .non rfl).same (s5.trans (s6.trans s7))
      · exact (np_left e5 (.str _) (.int j) rfl).same (s6.trans s7)
      · exact (np_left e6 (.bl _) (.int j) rfl).same s7
      · exact np_right e7 (.int i) (.bl _) rfl
    have sH : Same H H7 := s1.trans (s2.trans (s3.trans (s4.trans (s5.trans (s6.trans s7)))))
    rw [← efs]
    have lf : fs.length = 7 := by rw [efs]; rfl
    clear efs e1 e2 e3 e4 e5 e6 e7 s1 s2 s3 s4 s5 s6 s7
    have s8 := grow (o := HO.lst fs) nl
    have e8 : upd H7 l (HO.lst fs) l = _ := upd_same
    have u8 : ∀ q, q ≠ l → upd H7 l (HO.lst fs) q = H7 q := fun q hq => upd_ne hq
    revert s8 e8 u8
    generalize upd H7 l (HO.lst fs) = H8
    intro s8 e8 u8
    -- the nine
    refine ⟨_, rfl, .inl ⟨rfl, _, SqL.of e8⟩, _, _, rfl, rfl, ⟨by decide, by decide, by decide⟩, _, rfl, two, fun q1 m1 => ?_⟩
    have s9 := grow (o := HO.tup [V.int (10 ^ 30), V.int j]) m1
    have e9 : upd H8 q1 (HO.tup [V.int (10 ^ 30), V.int j]) q1 = _ := upd_same
    show tCons _ _ _ (upd H8 q1 (HO.tup [V.int (10 ^ 30), V.int j])) _
    revert s9 e9
    generalize upd H8 q1 (HO.tup [V.int (10 ^ 30), V.int j]) = H9
    intro s9 e9
    refine ⟨_, rfl, _, _, rfl, rfl, ⟨by decide, by decide, by decide⟩, _, rfl, two, fun q2 m2 => ?_⟩
    have s10 := grow (o := HO.tup [V.int i, V.int (-(10 ^ 30))]) m2
    have e10 : upd H9 q2 (HO.tup [V.int i, V.int (-(10 ^ 30))]) q2 = _ := upd_same
    show tCons _ _ _ (upd H9 q2 (HO.tup [V.int i, V.int (-(10 ^ 30))])) _
    revert s10 e10
    generalize upd H9 q2 (HO.tup [V.int i, V.int (-(10 ^ 30))]) = H10
    intro s10 e10
    refine ⟨_, rfl, _, rfl, two, fun q3 m3 => ?_⟩
    have s11 := grow (o := HO.tup [V.int i, V.int j]) m3
    have e11 : upd H10 q3 (HO.tup [V.int i, V.int j]) q3 = _ := upd_same
    revert s11 e11
    generalize upd H10 q3 (HO.tup [V.int i, V.int j]) = H11
    intro s11 e11
    refine ⟨two, fun q4 m4 => ?_⟩
    have s12 := grow (o := HO.tup [V.ref q3, V.int 0]) m4
    have e12 : upd H11 q4 (HO.tup [V.ref q3, V.int 0]) q4 = _ := upd_same
    revert s12 e12
    generalize upd H11 q4 (HO.tup [V.ref q3, V.int 0]) = H12
    intro s12 e12
    refine ⟨(by show 0 ≤ sizeLine; decide), fun q5 m5 => ?_⟩
    have s13 := grow (o := HO.tup []) m5
    have e13 : upd H12 q5 (HO.tup []) q5 = _ := upd_same
    revert s13 e13
    generalize upd H12 q5 (HO.tup []) = H13
    intro s13 e13
    refine fun q6 m6 => ⟨_, rfl, _, rfl, upd_same, [(Sum.inl i, V.int j)], rfl, (by show 1 ≤ 15; decide), ?_⟩
    rw [upd_upd]
    have s14 := grow (o := HO.dK (mergeK [] [(Sum.inl i, V.int j)])) m6
    have e14 : upd H13 q6 (HO.dK (mergeK [] [(Sum.inl i, V.int j)])) q6 = _ := upd_same
    revert s14 e14
    generalize upd H13 q6 (HO.dK (mergeK [] [(Sum.inl i, V.int j)])) = H14
    intro s14 e14
    refine ⟨(by show 9 ≤ sizeLine; decide), fun q7 m7 => ?_⟩
    obtain ⟨gs, egs⟩ : ∃ gs, gs = [V.ref q1, V.ref q2, V.ref q4, V.ref q5, V.non, V.int 3, V.str "ab", V.bl true, V.ref q6] := ⟨_, rfl⟩
    have off : ∀ {HH : Hp} {b : Addr}, Same H8 HH → HH b = none → b ≠ l := by
      intro HH b z n q
      have e := z _ _ e8
      rw [← q, n] at e
      cases e
    obtain ⟨G, eG⟩ : ∃ G : Hp, G = fun b => if b = l then none else H14 b := ⟨_, rfl⟩
    have put : ∀ {b : Addr} {o : HO}, b ≠ l → H14 b = some o → G b = some o := by
      intro b o hb h
      rw [eG]
      exact (if_neg hb).trans h
    have t10 := s9.trans s10
    have t11 := t10.trans s11
    have t12 := t11.trans s12
    have t13 := t12.trans s13
    have no9 : ∀ x ∈ gs, NoPlace K G x := by
      intro x hx
      rw [egs] at hx
      simp only [List.mem_cons, List.not_mem_nil, or_false] at hx
      rcases hx with rfl | rfl | rfl | rfl | rfl | rfl | rfl | rfl | rfl
      · exact np_left (put (off (Same.refl _) m1) ((s10.trans (s11.trans (s12.trans (s13.trans s14)))) _ _ e9)) (.int _) (.int j) inB_top
      · exact np_right (put (off s9 m2) ((s11.trans (s12.trans (s13.trans s14))) _ _ e10)) (.int i) (.int _) inB_bottom
      · exact np_left (put (off t11 m4) ((s13.trans s14) _ _ e12)) (.tup (put (off t10 m3) ((s12.trans (s13.trans s14)) _ _ e11))) (.int 0) rfl
      · exact np_short (put (off t12 m5) (s14 _ _ e13)) (by show (0 : Nat) ≠ 2; decide)
      · exact np_ty (.base .non) (by decide)
      · exact np_ty (.base (.int 3)) (by decide)
      · exact np_ty (.base (.str _)) (by decide)
      · exact np_ty (.base (.bl _)) (by decide)
      · exact np_ty (.base (.dK (put (off t13 m6) e14))) (by decide)
    have sK : Same H8 H14 := s9.trans (s10.trans (s11.trans (s12.trans (s13.trans s14))))
    rw [← egs]
    have lg : gs.length = 9 := by rw [egs]; rfl
    clear egs e9 e10 e11 e12 e13 e14 s9 s10 s11 s12 s13 s14 t10 t11 t12 t13
    have s15 := grow (o := HO.lst gs) m7
    have e15 : upd H14 q7 (HO.lst gs) q7 = _ := upd_same
    revert s15 e15
    generalize upd H14 q7 (HO.lst gs) = H15
    intro s15 e15
    have el : H15 l = some (.lst fs) := s15 _ _ (sK _ _ e8)
    refine ⟨l, q7, fs, gs, rfl, rfl, el, e15, (by rw [lf, lg]; decide), _, rfl, ?_⟩
    have sG : Same G (upd H15 l (.lst (fs ++ gs))) := by
      intro b o z
      rw [eG] at z
      have z : (if b = l then none else H14 b) = some o := z
      have hb : b ≠ l := by
        intro q
        rw [if_pos q] at z
        cases z
      rw [if_neg hb] at z
      rw [upd_ne hb]
      exact s15 _ _ z
    have s7 : Same H7 (upd H15 l (.lst (fs ++ gs))) := by
      intro b o z
      have nb : b ≠ l := by
        intro q
        rw [q, nl] at z
        cases z
      rw [upd_ne nb]
      exact s15 _ _ (sK _ _ (s8 _ _ z))
    refine k l _ (fs ++ gs) (sH.trans s7) upd_same ?_
    intro x hx
    rcases List.mem_append.mp hx with hx | hx
    · exact (no7 x hx).same s7
    · exact (no9 x hx).same sG
end
end K9
namespace K9
open PySem L2
open L2.My
/-- a promise as one word, so that what follows is read off as it stands -/
structure Keeps (sp : Sp) (vs : List V) (H : Hp) (Q : VK) (E : XK) : Prop where
  out : sp vs H Q E
def box (sp : Sp) : Sp := fun vs H Q E => Keeps sp vs H Q E
theorem boxed {P : Program} {w : World} {K : PySem.W.Frag} {mg : Str → Option Value} {base : Heap} {CX : CXT} {k : Nat} {f : Addr} {fd : FuncData} {ps : List Str} {sp : Sp} (F : FnOk P w K mg base CX k f fd ps sp) : FnOk P w K mg base CX k f fd ps (box sp) :=
  ⟨fun vs H Q E h => F.len vs H Q E h.out, fun A outer s H args us vs Q E hr e b r h => F.run A outer s H args us vs Q E hr e b r h.out⟩
/-- a def as its callers see it -/
structure Def (P : Program) (w : World) (K : PySem.W.Frag) (mg : Str → Option Value) (base : Heap) (CX : CXT) (x : Str) (k : Nat) (ps : List Str) (sp : Sp) (f : Addr) (fd : FuncData) : Prop where
  ok : FnOk P w K mg base CX k f fd ps (box sp)
  gl : mg x = some (.ref f)
  kp : PySem.W.keepIn K (.ref f) = true
  bi : Binds K fd ps []
section
variable {P : Program} {w : World} {K : PySem.W.Frag} {mg : Str → Option Value} {base : Heap}
/-! ### the promises at good and at odd arguments -/
theorem place_good {a b : Int} {pl : Addr} {H : Hp} {Q : VK} {E : XK} (e : H pl = some (.tup [.int a, .int b])) (ha : inB a = true) (hb : inB b = true) (k : Q (.bl true) H) : Keeps (spPlace K) [.ref pl] H Q E := by
  refine ⟨_, _, rfl, .two e (.int a) (.int b), ?_⟩
  have z : placeB (some (some a, some b)) = true := by
    show (inB a && inB b) = true
    rw [ha, hb]
    rfl
  rw [z]
  exact k
theorem place_no {x : V} {H : Hp} {Q : VK} {E : XK} (h : NoPlace K H x) (k : Q (.bl false) H) : Keeps (spPlace K) [x] H Q E := by
  obtain ⟨p, t, b⟩ := h
  refine ⟨_, _, rfl, t, ?_⟩
  rw [b]
  exact k
theorem cell_good {CA CN : Addr} {a b i : Int} {pl : Addr} {H : Hp} {Q : VK} {E : XK} (e : H pl = some (.tup [.int a, .int b])) (ha : inB a = true) (hb : inB b = true) (hi : inB i = true) (k : Q (.int (a * i + b)) H) : Keeps (spCell K CA CN) [.ref pl, .int i] H Q E := by
  have z : placeB (some (some a, some b)) = true := by
    show (inB a && inB b) = true
    rw [ha, hb]
    rfl
  refine ⟨_, _, _, _, rfl, .two e (.int a) (.int b), .int i, fun h => ?_, fun _ h => ?_, fun a2 b2 i2 h1 h2 _ _ _ => ?_⟩
  · rw [z] at h
    cases h
  · have h2 : inB i = false := h
    rw [hi] at h2
    cases h2
  · injection h1 with h1
    injection h1 with h3 h4
    injection h3 with h3
    injection h4 with h4
    injection h2 with h2
    subst h3 h4 h2
    exact k
theorem word_arg {x y : V} {q : Option Int} {H : Hp} {Q : VK} {E : XK} (h : NoPlace K H x) (it : Item K H y q) (k : ∀ t H', Same H H' → H' t = some (.tup [.str "argument", .bl true]) → Q (.ref t) H') : Keeps (spWord K) [x, y] H Q E := by
  obtain ⟨p, t, b⟩ := h
  refine ⟨_, _, _, _, rfl, t, it, fun h => ?_, fun _ => k, fun h => ?_⟩
  all_goals
    rw [b] at h
    cases h
theorem word_num {a b : Int} {pl : Addr} {y : V} {q : Option Int} {H : Hp} {Q : VK} {E : XK} (e : H pl = some (.tup [.int a, .int b])) (ha : inB a = true) (hb : inB b = true) (it : Item K H y q) (no : small q = false)
    (k : ∀ t H', Same H H' → H' t = some (.tup [.str "number", y]) → Q (.ref t) H') : Keeps (spWord K) [.ref pl, y] H Q E := by
  have z : placeB (some (some a, some b)) = true := by
    show (inB a && inB b) = true
    rw [ha, hb]
    rfl
  refine ⟨_, _, _, _, rfl, .two e (.int a) (.int b), it, fun _ => no, fun h => ?_, fun _ => k⟩
  rw [z] at h
  cases h
theorem eqv_arg : PyData.eqv (.tuple [.str "argument", .bool true]) (.tuple [.str "argument", .bool true]) = true := by decide +kernel
/-! ### _law_one: one cell -/
def spOne : Sp := fun vs H Q _ => ∃ n : Int, vs = [.int n] ∧ ∀ H', Same H H' → Q (.bl true) H'
theorem scOne : FnScope ["_law_cell", "_law_dice_here", "_law_place", "_law_number", "_law_found", "_law_value"] ["_law_cell"] (defScope tOne) := ⟨rfl, rfl, rfl, by decide +kernel, rfl, by decide +kernel, by decide +kernel⟩
theorem near {r : Int} (h0 : -(10 ^ 18) < r) (h1 : r < 10 ^ 18) : inB r = true ∧ inB (r + 1) = true ∧ -(2 ^ 64) < r ∧ r < 2 ^ 64 := by
  have e1 : (10 : Int) ^ 18 = 1000000000000000000 := by decide
  have e2 : (10 : Int) ^ 30 = 1000000000000000000000000000000 := by decide
  have e3 : (2 : Int) ^ 64 = 18446744073709551616 := by decide
  rw [e1] at h0 h1
  rw [inB_iff, inB_iff, e2, e3]
  omega
theorem ok_one {f fD fW fP fC fK fO fX CA CN : Addr} {fd fdD fdW fdP fdC fdK fdO fdX : FuncData} (F : Fun K "_law_one" "_law_one" tOne f fd)
    (DD : Def P w K mg base CX0 "_law_dice" 1 ["_law_cell"] spDice fD fdD) (DW : Def P w K mg base CX0 "_law_whole" 3 ["_law_dice_here"] spDraw fW fdW) (DP : Def P w K mg base CX0 "is_place" 3 ["value"] (spPlace K) fP fdP)
    (DC : Def P w K mg base (L2.CX P w) "cell_of" 4 ["place", "number"] (spCell K CA CN) fC fdC) (DK : Def P w K mg base CX0 "_law_is_count" 1 ["_law_value"] spCount fK fdK) (DO : Def P w K mg base CX0 "_law_odd" 1 ["_law_place"] (spOdd K) fO fdO)
    (DX : Def P w K mg base CX0 "_law_word" 5 ["_law_place", "_law_number"] (spWord K) fX fdX) : FnOk P w K mg base CX0 6 f fd ["_law_cell"] spOne := by
  refine F.ok scOne (fun vs H Q E h => ?_) (fun cdv A outer s H vs Q E hr h => ?_)
  · obtain ⟨n, rfl, _⟩ := h
    rfl
  · obtain ⟨n, rfl, k⟩ := h
    have hr4 : Room 4 _ := hr.mono (by decide)
    have hr3 : Room 3 _ := hr.mono (by decide)
    have hr1 : Room 1 _ := hr.mono (by decide)
    refine ⟨_, pss_cons (ps_set (i := 1) scOne.nd rfl (.inl rfl) (pe_call DD.ok hr1 rfl DD.gl DD.kp DD.bi .nil pass0 (pa_cons (pv 0) pa_nil)))
      (pss_cons (ps_par (i := 2) (j := 3) rfl scOne.nd rfl rfl (by decide) rfl rfl (pa_cons (pe_tup (pa_cons (pe_call DW.ok hr3 rfl DW.gl DW.kp DW.bi .nil pass0 (pa_cons (pv 1) pa_nil)) (pa_cons (pe_call DW.ok hr3 rfl DW.gl DW.kp DW.bi .nil pass0 (pa_cons (pv 1) pa_nil)) pa_nil)))
        (pa_cons (pe_call DW.ok hr3 rfl DW.gl DW.kp DW.bi .nil pass0 (pa_cons (pv 1) pa_nil)) pa_nil)) (by rfl))
      (pss_cons (ps_set (i := 4) scOne.nd rfl (.inl rfl) (pe_call DC.ok hr4 rfl DC.gl DC.kp DC.bi .nil passL (pa_cons (pv 2) (pa_cons (pv 3) pa_nil))))
      (pss_cons (ps_if (PW.pt (pw_or (pt_cmpR op_isnot_bl (pe_call DP.ok hr3 rfl DP.gl DP.kp DP.bi .nil pass0 (pa_cons (pv 2) pa_nil)) pe_bl (nomark _))
          (pw_or (pt_not (pt_val (pe_call DK.ok hr1 rfl DK.gl DK.kp DK.bi .nil pass0 (pa_cons (pv 4) pa_nil))))
          (pw_or1 (pt_cmpR op_ne (pv 4) (pe_op op_add (pe_op op_mul (pe_ix ix_tup (pv 2) pe_int (fun _ _ => rfl)) (pv 3)) (pe_ix ix_tup (pv 2) pe_int (fun _ _ => rfl))) (nomark _)))))) (pss_one (ps_ret pe_bl)) pss_nil)
      (pss_cons (ps_if (PW.pt (pw_or (pt_cmpR op_ne (pe_call DC.ok hr4 rfl DC.gl DC.kp DC.bi .nil passL (pa_cons (pv 2) (pa_cons (pe_op op_add (pv 3) pe_int) pa_nil))) (pe_op op_add (pv 4) (pe_ix ix_tup (pv 2) pe_int (fun _ _ => rfl))) (nomark _))
          (pw_or1 (pt_cmpR op_ne (pe_call DC.ok hr4 rfl DC.gl DC.kp DC.bi .nil passL (pa_cons (pe_tup (pa_cons (pe_ix ix_tup (pv 2) pe_int (fun _ _ => rfl)) (pa_cons (pe_op op_add (pe_ix ix_tup (pv 2) pe_int (fun _ _ => rfl)) pe_int) pa_nil))) (pa_cons (pv 3) pa_nil))) (pe_op op_add (pv 4) pe_int) (nomark _))))) (pss_one (ps_ret pe_bl)) pss_nil)
      (pss_cons (ps_for PassesOwn.never rfl (pi_list (pe_call DO.ok hr1 rfl DO.gl DO.kp DO.bi .nil pass0 (pa_cons (pv 2) pa_nil))) (pg_name (i := 5) scOne.nd rfl (.inl rfl))
        (pss_one (ps_if (PW.pt (pw_or (pt_cmpR op_isnot_bl (pe_call DP.ok hr3 rfl DP.gl DP.kp DP.bi .nil pass0 (pa_cons (pv 5) pa_nil)) pe_bl (nomark _))
          (pw_or1 (pt_cmpR (op_neD hr.units) (pe_call DX.ok hr rfl DX.gl DX.kp DX.bi .nil pass0 (pa_cons (pv 5) (pa_cons pe_str pa_nil))) (pe_tup (pa_cons pe_str (pa_cons pe_bl pa_nil))) (nomark _))))) (pss_one (ps_ret pe_bl)) pss_nil)))
      (pss_cons (ps_for PassesOwn.never rfl (pi_tup (pe_tup (pa_cons pe_non (pa_cons pe_bl (pa_cons pe_str (pa_cons (pe_tup (pa_cons pe_int pa_nil)) (pa_cons (pe_op op_pow pe_int pe_int) (pa_cons (pe_un un_neg (pe_op op_pow pe_int pe_int)) pa_nil)))))))) (pg_name (i := 5) scOne.nd rfl (.inl rfl))
        (pss_one (ps_if (pt_cmpR (op_neD hr.units) (pe_call DX.ok hr rfl DX.gl DX.kp DX.bi .nil pass0 (pa_cons (pv 2) (pa_cons (pv 5) pa_nil))) (pe_tup (pa_cons pe_str (pa_cons (pv 5) pa_nil))) (nomark _)) (pss_one (ps_ret pe_bl)) pss_nil)))
      (pss_one (ps_ret pe_bl)))))))), ?_⟩
    -- the draws
    refine ⟨_, rfl, n, rfl, fun d H1 nd D1 u1 => ?_⟩
    refine ⟨_, rfl, d, rfl, D1, fun a H2 a0 a1 D2 u2 => ?_⟩
    refine ⟨_, rfl, d, rfl, D2, fun b H3 b0 b1 D3 u3 => ?_⟩
    refine ⟨(by show 2 ≤ sizeLine; decide), fun pl npl => ?_⟩
    have dpl : d ≠ pl := by
      obtain ⟨_, _, _, z, _⟩ := D3
      exact ne_of_none z npl
    have D3' : Dice (upd H3 pl (.tup [.int a, .int b])) d := by
      obtain ⟨x, y, z, e, r⟩ := D3
      exact ⟨x, y, z, by rw [upd_ne dpl]; exact e, r⟩
    refine ⟨_, rfl, d, rfl, D3', fun i H4 i0 i1 D4 u4 => ?_⟩
    have e4 : H4 pl = some (.tup [.int a, .int b]) := (u4 pl dpl.symm).trans upd_same
    have s4 : Same H H4 := by
      intro q o z
      have qd : q ≠ d := by
        intro w
        rw [w, nd] at z
        cases z
      have z3 : H3 q = some o := ((u1.trans u2).trans u3 q qd).trans z
      rw [u4 q qd, upd_ne (ne_of_none z3 npl)]
      exact z3
    clear u1 u2 u3 u4 D1 D2 D3 D3' D4
    obtain ⟨ha, _, al, ah⟩ := near a0 a1
    obtain ⟨hb, hb1, _, _⟩ := near b0 b1
    obtain ⟨hi, hi1, _, _⟩ := near i0 i1
    refine ⟨_, _, rfl, ?_⟩
    -- found = cell_of(place, number)
    refine ⟨_, rfl, _, rfl, cell_good e4 ha hb hi ?_⟩
    -- the first if
    refine ⟨_, rfl, place_good e4 ha hb ⟨_, _, rfl, rfl, _, rfl, iteF ?_⟩⟩
    refine ⟨_, rfl, _, rfl, _, rfl, iteF ?_⟩
    refine ⟨_, rfl, _, rfl, pl, _, 0, _, rfl, rfl, SqT.of e4, atI_nat (j := 0) rfl, _, rfl, _, _, rfl, rfl, .inl ⟨al, ah⟩, _, rfl, pl, _, 1, _, rfl, rfl, SqT.of e4, atI_nat (j := 1) rfl, _, _, rfl, rfl, rfl, _, rfl, iteNS rfl ?_⟩
    -- the second if
    refine ⟨_, rfl, _, rfl, _, _, rfl, rfl, cell_good e4 ha hb hi1 ⟨_, rfl, _, rfl, pl, _, 0, _, rfl, rfl, SqT.of e4, atI_nat (j := 0) rfl, _, _, rfl, rfl, rfl, _, rfl, iteNS ?_ ?_⟩⟩
    · congr 1
      rw [Int.mul_add, Int.mul_one]
      omega
    refine ⟨_, rfl, pl, _, 0, _, rfl, rfl, SqT.of e4, atI_nat (j := 0) rfl, _, rfl, pl, _, 1, _, rfl, rfl, SqT.of e4, atI_nat (j := 1) rfl, _, _, rfl, rfl, (by show 2 ≤ sizeLine; decide), fun p5 n5 => ?_⟩
    have s5 := grow (o := HO.tup [V.int a, V.int (b + 1)]) n5
    have e5 : upd H4 p5 (HO.tup [V.int a, V.int (b + 1)]) p5 = _ := upd_same
    revert s5 e5
    generalize upd H4 p5 (HO.tup [V.int a, V.int (b + 1)]) = H5
    intro s5 e5
    refine ⟨_, rfl, cell_good e5 ha hb1 hi ⟨_, rfl, _, _, rfl, rfl, rfl, _, rfl, iteNS ?_ ?_⟩⟩
    · congr 1
      omega
    have g5 : H5 pl = some (.tup [.int a, .int b]) := s5 _ _ e4
    -- the odd values
    refine ⟨_, rfl, pl, a, b, rfl, g5, fun l H6 xs s6 el no => ?_⟩
    refine ⟨l, rfl, ⟨_, SqL.of el⟩, for_list (K := K) (a := l) (xs := xs) (fun j σ H' => ∃ v : Option V, σ = [some (.int n), some (.ref d), some (.ref pl), some (.int i), some (.int (a * i + b)), v] ∧ Same H6 H')
      ⟨_, rfl, Same.refl _⟩ (fun j σ H' _ ⟨_, _, s7⟩ => s7.seq (SqL.of el)) ?_ ?_⟩
    · rintro j y σ H7 hj ⟨v, rfl, s7⟩
      have ny : NoPlace K H7 y := (no y (List.mem_of_getElem? hj)).same s7
      refine ⟨_, rfl, place_no ny ⟨_, _, rfl, rfl, _, rfl, iteF ?_⟩⟩
      refine ⟨_, rfl, word_arg ny (.str _) fun t H8 s8 et => ⟨(by show 2 ≤ sizeLine; decide), fun t2 nt2 => ?_⟩⟩
      refine ⟨_, _, .tup (SqT.of (grow nt2 _ _ et)) (.cons (.str _) (.cons (.bl _) .nil)), .tup (SqT.of upd_same) (.cons (.str _) (.cons (.bl _) .nil)), by decide +kernel, by decide +kernel, _, rfl, ?_⟩
      rw [eqv_arg]
      exact iteF ⟨_, rfl, s7.trans (s8.trans (grow nt2))⟩
    · rintro σ H7 ⟨v, rfl, s7⟩
      have g7 : H7 pl = some (.tup [.int a, .int b]) := s7 _ _ (s6 _ _ g5)
      have sH7 : Same H H7 := s4.trans (s5.trans (s6.trans s7))
      clear s4 s5 s6 s7 e4 e5 g5 el no
      -- the numbers that are none
      refine ⟨(by show 1 ≤ sizeLine; decide), fun q1 m1 => ?_⟩
      refine ⟨_, _, rfl, rfl, ⟨by decide, by decide, by decide⟩, _, _, rfl, rfl, ⟨by decide, by decide, by decide⟩, _, rfl, (by show 6 ≤ sizeLine; decide), fun q2 m2 => ?_⟩
      have two : (2 : Nat) ≤ sizeLine := by decide
      have sq1 := grow (o := HO.tup [V.int 1]) m1
      have eq1 : upd H7 q1 (HO.tup [V.int 1]) q1 = _ := upd_same
      revert sq1 eq1 m2
      generalize upd H7 q1 (HO.tup [V.int 1]) = H8
      intro m2 sq1 eq1
      obtain ⟨xs2, exs⟩ : ∃ xs2 : List V, xs2 = [V.non, V.bl true, V.str "1", V.ref q1, V.int (10 ^ 30), V.int (-(10 ^ 30))] := ⟨_, rfl⟩
      have sq2 : Same H8 (upd H8 q2 (HO.tup xs2)) := grow m2
      have eq2 : upd H8 q2 (HO.tup xs2) q2 = some (HO.tup xs2) := upd_same
      have bad : ∀ H9, Same H8 H9 → ∀ y ∈ xs2, ∃ q dd, Item K H9 y q ∧ small q = false ∧ Dp K H9 y dd ∧ SeqAt.shaped (.tuple [.str "number", dd]) = true ∧ PyData.eqv (.tuple [.str "number", dd]) (.tuple [.str "number", dd]) = true := by
        intro H9 s9 y hy
        rw [exs] at hy
        simp only [List.mem_cons, List.not_mem_nil, or_false] at hy
        rcases hy with rfl | rfl | rfl | rfl | rfl | rfl
        · exact ⟨_, _, .non, rfl, .non, by decide +kernel, by decide +kernel⟩
        · exact ⟨_, _, .bl _, rfl, .bl _, by decide +kernel, by decide +kernel⟩
        · exact ⟨_, _, .str _, rfl, .str _, by decide +kernel, by decide +kernel⟩
        · exact ⟨_, .tuple [.int 1], .tup (s9 _ _ eq1), rfl, .tup (SqT.of (s9 _ _ eq1)) (.cons (.int 1) .nil), by decide +kernel, by decide +kernel⟩
        · exact ⟨_, _, .int _, inB_top, .int _, by decide +kernel, by decide +kernel⟩
        · exact ⟨_, _, .int _, inB_bottom, .int _, by decide +kernel, by decide +kernel⟩
      have goal : ∀ H9, Same H8 H9 → H9 q2 = some (HO.tup xs2) → Same H H9 ∧ SqT K H9 q2 xs2 := fun H9 s9 e9 => ⟨sH7.trans (sq1.trans s9), SqT.of e9⟩
      refine ⟨q2, rfl, ⟨xs2, by rw [exs]; exact SqT.of upd_same⟩, for_tup (K := K) (a := q2) (xs := xs2) (fun j σ H' => ∃ v : Option V, σ = [some (.int n), some (.ref d), some (.ref pl), some (.int i), some (.int (a * i + b)), v] ∧ Same (upd H8 q2 (HO.tup xs2)) H')
        ⟨_, rfl, by rw [exs]; exact Same.refl _⟩ (fun j σ H' _ ⟨_, _, s9⟩ => SqT.of (s9 _ _ eq2)) ?_ ?_⟩
      · rintro j y σ H9 hj ⟨v, rfl, s9⟩
        obtain ⟨q, dd, it, no, dp, sh, ev⟩ := bad H9 (sq2.trans s9) y (List.mem_of_getElem? hj)
        have g9 : H9 pl = some (.tup [.int a, .int b]) := s9 _ _ (sq2 _ _ (sq1 _ _ g7))
        refine ⟨_, rfl, _, rfl, word_num g9 ha hb it no fun t H10 s10 et => ⟨_, rfl, two, fun t2 nt2 => ?_⟩⟩
        obtain ⟨q', dd', _, _, dp', sh', ev'⟩ := bad (upd H10 t2 (HO.tup [V.str "number", y])) (sq2.trans (s9.trans (s10.trans (grow nt2)))) y (List.mem_of_getElem? hj)
        refine ⟨_, _, .tup (SqT.of (grow nt2 _ _ et)) (.cons (.str _) (.cons dp' .nil)), .tup (SqT.of upd_same) (.cons (.str _) (.cons dp' .nil)), sh', sh', _, rfl, ?_⟩
        rw [ev']
        exact iteF ⟨_, rfl, s9.trans (s10.trans (grow nt2))⟩
      · rintro σ H9 ⟨v, rfl, s9⟩
        exact k _ (sH7.trans (sq1.trans (sq2.trans s9)))
/-! ### law -/
def spLaw (K : PySem.W.Frag) : Sp := fun vs H Q _ => ∃ (a : Addr) (ns : List Int), vs = [.ref a] ∧ SqL K H a (ns.map V.int) ∧ ns.length ≤ 63 ∧ ∀ H', Q (.bl true) H'
theorem scLaw : FnScope ["_law_script", "_law_cell", "_law_top"] ["_law_script"] (defScope tLaw) := ⟨rfl, rfl, rfl, by decide +kernel, rfl, by decide +kernel, by decide +kernel⟩
theorem ok_law {f fS fO fP fC CA CN : Addr} {fd fdS fdO fdP fdC : FuncData} (F : Fun K "law" "law" tLaw f fd) (DS : Def P w K mg base CX0 "_law_cells" 1 ["_law_script", "_law_most"] (spCells K) fS fdS) (DO : Def P w K mg base CX0 "_law_one" 6 ["_law_cell"] spOne fO fdO)
    (DP : Def P w K mg base CX0 "is_place" 3 ["value"] (spPlace K) fP fdP) (DC : Def P w K mg base (L2.CX P w) "cell_of" 4 ["place", "number"] (spCell K CA CN) fC fdC) : FnOk P w K mg base CX0 7 f fd ["_law_script"] (spLaw K) := by
  refine F.ok scLaw (fun vs H Q E h => ?_) (fun cdv A outer s H vs Q E hr h => ?_)
  · obtain ⟨a, ns, rfl, _⟩ := h
    rfl
  · obtain ⟨a, ns, rfl, hS, hl, k⟩ := h
    have hr4 : Room 4 _ := hr.mono (by decide)
    have hr3 : Room 3 _ := hr.mono (by decide)
    have hr1 : Room 1 _ := hr.mono (by decide)
    refine ⟨_, pss_cons (ps_for PassesOwn.never rfl (pi_list (pe_call DS.ok hr1 rfl DS.gl DS.kp DS.bi .nil pass0 (pa_cons (pv 0) (pa_cons pe_int pa_nil)))) (pg_name (i := 1) scLaw.nd rfl (.inl rfl))
        (pss_one (ps_if (pt_not (pt_val (pe_call DO.ok hr rfl DO.gl DO.kp DO.bi .nil pass0 (pa_cons (pv 1) pa_nil)))) (pss_one (ps_ret pe_bl)) pss_nil)))
      (pss_cons (ps_set (i := 2) scLaw.nd rfl (.inl rfl) (pe_op op_sub (pe_op op_pow pe_int pe_int) pe_int))
      (pss_cons (ps_if (PW.pt (pw_or (pt_cmpR op_isnot_bl (pe_call DP.ok hr3 rfl DP.gl DP.kp DP.bi .nil pass0 (pa_cons (pe_tup (pa_cons (pv 2) (pa_cons (pe_un un_neg (pv 2)) pa_nil))) pa_nil)) pe_bl (nomark _))
          (pw_or1 (pt_cmpR op_ne (pe_call DC.ok hr4 rfl DC.gl DC.kp DC.bi .nil passL (pa_cons (pe_tup (pa_cons (pv 2) (pa_cons (pe_un un_neg (pv 2)) pa_nil))) (pa_cons (pv 2) pa_nil))) (pe_op op_sub (pe_op op_mulW (pv 2) (pv 2)) (pv 2)) (nomark _))))) (pss_one (ps_ret pe_bl)) pss_nil)
      (pss_one (ps_ret (pe_and (pe_cmpR op_eq (pe_call DC.ok hr4 rfl DC.gl DC.kp DC.bi .nil passL (pa_cons (pe_tup (pa_cons (pe_un un_neg pe_int) (pa_cons pe_int pa_nil))) (pa_cons (pe_un un_neg pe_int) pa_nil))) pe_int (nomark _))
        (pe_one (pe_cmpR op_is_bl (pe_call DP.ok hr3 rfl DP.gl DP.kp DP.bi .nil pass0 (pa_cons (pe_tup (pa_cons pe_int (pa_cons pe_int pa_nil))) pa_nil)) pe_bl (nomark _)))))))), ?_⟩
    refine ⟨_, rfl, a, ns, rfl, hS, hl, fun l H1 xs s1 el ix => ?_⟩
    refine ⟨l, rfl, ⟨_, SqL.of el⟩, for_list (K := K) (a := l) (xs := xs) (fun j σ H' => ∃ v : Option V, σ = [some (.ref a), v, none] ∧ Same H1 H')
      ⟨_, rfl, Same.refl _⟩ (fun j σ H' _ ⟨_, _, s7⟩ => s7.seq (SqL.of el)) ?_ ?_⟩
    · rintro j y σ H2 hj ⟨v, rfl, s2⟩
      obtain ⟨n, rfl⟩ := ix y (List.mem_of_getElem? hj)
      exact ⟨_, rfl, n, rfl, fun H3 s3 => ⟨_, rfl, iteF ⟨_, rfl, s2.trans s3⟩⟩⟩
    · rintro σ H2 ⟨v, rfl, s2⟩
      have two : (2 : Nat) ≤ sizeLine := by decide
      have b1 : inB ((10 : Int) ^ (30 : Int).toNat - 1) = true := by decide +kernel
      have b2 : inB (-((10 : Int) ^ (30 : Int).toNat - 1)) = true := by decide +kernel
      refine ⟨_, _, rfl, rfl, ⟨by decide, by decide, by decide⟩, _, _, rfl, rfl, ?_⟩
      refine ⟨_, rfl, _, rfl, _, rfl, two, fun p1 n1 => place_good upd_same b1 b2 ⟨_, _, rfl, rfl, _, rfl, iteF ?_⟩⟩
      refine ⟨_, rfl, _, rfl, _, rfl, two, fun p2 n2 => ⟨_, rfl, cell_good upd_same b1 b2 b1 ?_⟩⟩
      refine ⟨_, rfl, _, rfl, _, _, rfl, rfl, wide_mul (inB_abs b1) (inB_abs b1) (by decide) (by decide) (by decide), _, rfl, _, _, rfl, rfl, rfl, _, rfl, iteNS (by decide +kernel) ?_⟩
      refine ⟨_, rfl, two, fun p3 n3 => ⟨_, rfl, cell_good upd_same (by decide +kernel) (by decide +kernel) (by decide +kernel) ?_⟩⟩
      refine ⟨rfl, _, rfl, ?_⟩
      refine iteT ⟨two, fun p4 n4 => place_good upd_same (by decide +kernel) (by decide +kernel) ⟨_, _, rfl, rfl, ?_⟩⟩
      exact k _
end
end K9
namespace K9
open PySem L2
open L2.My
/-- a def of the top: where it stands and what it is -/
structure AtTop (K : PySem.W.Frag) (x : Str) (st : Stmt) (f : Addr) (fd : FuncData) : Prop where
  ns : PySem.W.nsIn K mainGlobals x = some (some (.ref f))
  fn : Fun K x x st f fd
theorem atTop {K : PySem.W.Frag} {x : Str} {st : Stmt} {f : Addr} {oc : Value} {od an : Option Addr} {sl : Array (Option Value)} {kV dc pm cd ct : Value} (a : PySem.W.nsIn K mainGlobals x = some (some (.ref f)))
    (l : K.lookup f = some ⟨oc, od, .func (PySem.W.fnOf x x (defArgs st) (defBody st) (defScope st) .none kV dc pm an cd ct), sl⟩) (c : PySem.W.codeIn K cd x = true) (k : PySem.W.keepIn K (.ref f) = true) :
    AtTop K x st f (PySem.W.fnOf x x (defArgs st) (defBody st) (defScope st) .none kV dc pm an cd ct) := ⟨a, fun_mk (st := st) l c k⟩
theorem exL {K : PySem.W.Frag} {CN : Addr} {n q : Str} {N : Addr} {bs : List Value} {sn : List Str} {sub : List Value} {ab : Bool} {col : Option Bool} {dd : Option Addr} {k0 k1 k2 k3 k5 : Option Value}
    (l : K.lookup CN = some (excClassObj n q CN N bs mroR true sn sub ab col dd k0 k1 k2 k3 k5 "RuntimeError.__new__")) :
    ∃ n q N bs sn sub ab col dd k0 k1 k2 k3 k5, K.lookup CN = some (excClassObj n q CN N bs mroR true sn sub ab col dd k0 k1 k2 k3 k5 "RuntimeError.__new__") := ⟨n, q, N, bs, sn, sub, ab, col, dd, k0, k1, k2, k3, k5, l⟩
theorem exF {K : PySem.W.Frag} {fN : Addr} {oc : Value} {od : Option Addr} {doc pm : Value} {an : Option Addr} {cd ct : Value} {sl : Array (Option Value)} {p q a b c d : Pos}
    (l : K.lookup fN = some ⟨oc, od, .func (PySem.W.fnOf "__init__" "InvalidNumber.__init__" (initArgs p q) (initBody a b c d) initScope .none .none doc pm an cd ct), sl⟩) (c' : PySem.W.codeIn K cd "InvalidNumber.__init__" = true) :
    ∃ (oc : Value) (od : Option Addr) (doc pm : Value) (an : Option Addr) (cd ct : Value) (sl : Array (Option Value)) (p q a b c d : Pos),
      K.lookup fN = some ⟨oc, od, .func (PySem.W.fnOf "__init__" "InvalidNumber.__init__" (initArgs p q) (initBody a b c d) initScope .none .none doc pm an cd ct), sl⟩ ∧ PySem.W.codeIn K cd "InvalidNumber.__init__" = true := ⟨oc, od, doc, pm, an, cd, ct, sl, p, q, a, b, c, d, l, c'⟩
/-- the classes of errors -/
structure Classes (K : PySem.W.Frag) (CA CF CN fN : Addr) : Prop where
  nA : PySem.W.nsIn K mainGlobals "InvalidArgument" = some (some (.ref CA))
  nF : PySem.W.nsIn K mainGlobals "FoundryError" = some (some (.ref CF))
  nN : PySem.W.nsIn K mainGlobals "InvalidNumber" = some (some (.ref CN))
  lN : ∃ n q N bs sn sub ab col dd k0 k1 k2 k3 k5, K.lookup CN = some (excClassObj n q CN N bs mroR true sn sub ab col dd k0 k1 k2 k3 k5 "RuntimeError.__new__")
  saN : PySem.W.findIn K (.ref CN) "__setattr__" = some (some (.builtin "object.__setattr__"))
  gaN : PySem.W.findIn K (.ref CN) "__getattribute__" = some (some (.builtin "BaseException.__getattribute__"))
  ggN : PySem.W.findIn K (.ref CN) "__getattr__" = some none
  noN : PySem.W.findIn K (.ref CN) "value" = some none
  inN : PySem.W.findIn K (.ref CN) "__init__" = some (some (.ref fN))
  tfN : PySem.W.typeIn K (.ref fN) = some (.type "function")
  kpN : PySem.W.keepIn K (.ref CN) = true
  suN : PySem.W.subIn K (.ref CN) (.type "BaseException") = some true
  tyN : PySem.W.typeIn K (.ref CN) = some (.type "type")
  hdN : PySem.W.hasDictIn K CN = true
  fnN : ∃ (oc : Value) (od : Option Addr) (doc pm : Value) (an : Option Addr) (cd ct : Value) (sl : Array (Option Value)) (p q a b c d : Pos),
    K.lookup fN = some ⟨oc, od, .func (PySem.W.fnOf "__init__" "InvalidNumber.__init__" (initArgs p q) (initBody a b c d) initScope .none .none doc pm an cd ct), sl⟩ ∧ PySem.W.codeIn K cd "InvalidNumber.__init__" = true
  xA : PySem.W.excIn K CA mroV "ValueError.__new__" = true
  kA : PySem.W.keepIn K (.ref CA) = true
  bA : PySem.W.subIn K (.ref CA) (.type "BaseException") = some true
  tA : PySem.W.typeIn K (.ref CA) = some (.type "type")
  hA : PySem.W.hasDictIn K CA = true
  gA : PySem.W.findIn K (.ref CA) "__getattribute__" = some (some (.builtin "BaseException.__getattribute__"))
  ggA : PySem.W.findIn K (.ref CA) "__getattr__" = some none
  clA : PySem.W.findIn K (.ref CA) "__class__" = some (some (.builtin "object.__class__"))
  spA : PySem.W.specialIn K (.builtin "object.__class__") "__get__" = some (some (.builtin "getset_descriptor.__get__"))
  tkA : PySem.W.takesIn K (.builtin "object.__class__") = some true
  moA : PySem.W.mroIn K CA (.type "object") = some true
  iF : PySem.W.isClsIn K CF = true
  tF : PySem.W.typeIn K (.ref CF) = some (.type "type")
  sAA : PySem.W.subIn K (.ref CA) (.ref CA) = some true
  sNA : PySem.W.subIn K (.ref CN) (.ref CA) = some false
  sNN : PySem.W.subIn K (.ref CN) (.ref CN) = some true
  sAF : PySem.W.subIn K (.ref CA) (.ref CF) = some true
  sAV : PySem.W.subIn K (.ref CA) (.type "ValueError") = some true
theorem Classes.errs {K : PySem.W.Frag} {h : Heap} {mg : Str → Option Value} {CA CF CN fN : Addr} (X : K.In h) (G : h.Ns mainGlobals mg) (T : Classes K CA CF CN fN) (v : mg "ValueError" = none) : Errs K mg CA CF CN fN := by
  obtain ⟨n, q, N, bs, sn, sub, ab, col, dd, k0, k1, k2, k3, k5, l⟩ := T.lN
  refine ⟨⟨PySem.W.mg_of X G T.nN, ⟨n, q, N, bs, _, sn, sub, ab, col, dd, k0, k1, k2, k3, k5, l, by decide +kernel⟩, T.saN, T.gaN, T.ggN, T.noN, T.inN, T.tfN, T.kpN, T.suN, T.tyN, T.hdN, T.fnN⟩,
    PySem.W.mg_of X G T.nA, PySem.W.mg_of X G T.nF, v, T.xA, T.kA, T.bA, T.tA, ⟨T.gA, T.ggA, T.bA, T.hA, T.clA, T.spA, T.tkA, T.moA⟩,
    PySem.W.exm_ref T.bA T.hA T.tA T.sAA, PySem.W.exm_ref T.bA T.hA T.tA T.sNA, PySem.W.exm_ref T.suN T.hdN T.tyN T.sNN, ?_, ?_⟩
  · unfold PySem.W.kitOne
    split
    · rfl
    · have i2 : (PySem.W.clsIn K CF).isSome = true := T.iF
      show (if ((PySem.W.clsIn K CF).isSome && PySem.W.typeIn K (.ref CF) == some (.type "type")) = true then PySem.W.subIn K (.ref CA) (.ref CF) else none) = some true
      rw [i2, T.tF, if_pos (by rfl)]
      exact T.sAF
  · unfold PySem.W.kitOne
    rw [if_neg (by intro z; cases z)]
    show (if PySem.W.kitMeta "ValueError" = true then PySem.W.subIn K (.ref CA) (.type "ValueError") else none) = some true
    rw [if_pos (by decide +kernel)]
    exact T.sAV
theorem all_mk {P : Program} {w : World} {K : PySem.W.Frag} {h : Heap} {mg : Str → Option Value} {fa CA CF CN fN : Addr} {tl : Tok} (X : K.In h) (G : h.Ns mainGlobals mg) (hfa : mg "law" = some (.ref fa))
    {fW fI fP fC fR fD fN' fS fG fV fK fX fO fQ fL : Addr} {fdW fdI fdP fdC fdR fdD fdN fdS fdG fdV fdK fdX fdO fdQ fdL : FuncData} (T : Classes K CA CF CN fN) (lg : PySem.W.nsIn K mainGlobals "LONG" = some (some (.int (10 ^ 30) tl)))
    (dW : AtTop K "is_whole" tWhole fW fdW) (dI : AtTop K "is_integer" tInteger fI fdI) (dP : AtTop K "is_place" tPlace fP fdP) (dC : AtTop K "cell_of" tCell fC fdC) (dR : AtTop K "is_pair" tPair fR fdR) (dD : AtTop K "_law_dice" tDice fD fdD) (dN : AtTop K "_law_next" tNextD fN' fdN) (dS : AtTop K "_law_cells" tCells fS fdS) (dG : AtTop K "_law_great" tGreat fG fdG) (dV : AtTop K "_law_whole" tWholeD fV fdV) (dK : AtTop K "_law_is_count" tCount fK fdK) (dX : AtTop K "_law_word" tWord fX fdX) (dO : AtTop K "_law_odd" tOdd fO fdO) (dQ : AtTop K "_law_one" tOne fQ fdQ) (dL : AtTop K "law" tLaw fL fdL)
    (z0 : PySem.W.nsIn K mainGlobals "isinstance" = some none) (z1 : PySem.W.nsIn K mainGlobals "int" = some none) (z2 : PySem.W.nsIn K mainGlobals "bool" = some none) (z3 : PySem.W.nsIn K mainGlobals "tuple" = some none) (z4 : PySem.W.nsIn K mainGlobals "len" = some none) (z5 : PySem.W.nsIn K mainGlobals "abs" = some none) (z6 : PySem.W.nsIn K mainGlobals "max" = some none) (z7 : PySem.W.nsIn K mainGlobals "range" = some none) (z8 : PySem.W.nsIn K mainGlobals "list" = some none) (z9 : PySem.W.nsIn K mainGlobals "ValueError" = some none)
    (hb : ∀ (s : Shared) (v : Value), BindsTo s fdL ⟨[v], []⟩ [("_law_script", v)]) :
    ∃ fd : FuncData, (∀ (s : Shared) (v : Value), BindsTo s fd ⟨[v], []⟩ [("_law_script", v)]) ∧ ∀ base : Heap, K.In base → base.Ns mainGlobals mg → FnOk P w K mg base CX0 7 fa fd ["_law_script"] (spLaw K) := by
  have e := hfa.symm.trans (PySem.W.mg_of X G dL.ns)
  cases e
  refine ⟨fdL, hb, fun base _ _ => ?_⟩
  have TT : Txt K mg := ⟨PySem.W.mg_none_of X G z0, PySem.W.mg_none_of X G z1, PySem.W.mg_none_of X G z2, PySem.W.mg_none_of X G z3, PySem.W.mg_none_of X G z4, tl, PySem.W.mg_of X G lg⟩
  have TB : Bl mg := ⟨PySem.W.mg_none_of X G z1, PySem.W.mg_none_of X G z5, PySem.W.mg_none_of X G z6, PySem.W.mg_none_of X G z7, PySem.W.mg_none_of X G z8, PySem.W.mg_none_of X G z4⟩
  have TE : Errs K mg CA CF CN fN := T.errs X G (PySem.W.mg_none_of X G z9)
  have bW := dW.fn.binds (ps := ["value"]) fun _ _ _ _ _ _ us hl => match us, hl with | [_], _ => rfl
  have gW : mg "is_whole" = some (.ref fW) := PySem.W.mg_of X G dW.ns
  have bI := dI.fn.binds (ps := ["value"]) fun _ _ _ _ _ _ us hl => match us, hl with | [_], _ => rfl
  have gI : mg "is_integer" = some (.ref fI) := PySem.W.mg_of X G dI.ns
  have bP := dP.fn.binds (ps := ["value"]) fun _ _ _ _ _ _ us hl => match us, hl with | [_], _ => rfl
  have gP : mg "is_place" = some (.ref fP) := PySem.W.mg_of X G dP.ns
  have bC := dC.fn.binds (ps := ["place", "number"]) fun _ _ _ _ _ _ us hl => match us, hl with | [_, _], _ => rfl
  have gC : mg "cell_of" = some (.ref fC) := PySem.W.mg_of X G dC.ns
  have bR := dR.fn.binds (ps := ["value"]) fun _ _ _ _ _ _ us hl => match us, hl with | [_], _ => rfl
  have gR : mg "is_pair" = some (.ref fR) := PySem.W.mg_of X G dR.ns
  have bD := dD.fn.binds (ps := ["_law_cell"]) fun _ _ _ _ _ _ us hl => match us, hl with | [_], _ => rfl
  have gD : mg "_law_dice" = some (.ref fD) := PySem.W.mg_of X G dD.ns
  have bN := dN.fn.binds (ps := ["_law_dice_here", "_law_many"]) fun _ _ _ _ _ _ us hl => match us, hl with | [_, _], _ => rfl
  have gN : mg "_law_next" = some (.ref fN') := PySem.W.mg_of X G dN.ns
  have bS := dS.fn.binds (ps := ["_law_script", "_law_most"]) fun _ _ _ _ _ _ us hl => match us, hl with | [_, _], _ => rfl
  have gS : mg "_law_cells" = some (.ref fS) := PySem.W.mg_of X G dS.ns
  have bG := dG.fn.binds (ps := ["_law_dice_here"]) fun _ _ _ _ _ _ us hl => match us, hl with | [_], _ => rfl
  have gG : mg "_law_great" = some (.ref fG) := PySem.W.mg_of X G dG.ns
  have bV := dV.fn.binds (ps := ["_law_dice_here"]) fun _ _ _ _ _ _ us hl => match us, hl with | [_], _ => rfl
  have gV : mg "_law_whole" = some (.ref fV) := PySem.W.mg_of X G dV.ns
  have bK := dK.fn.binds (ps := ["_law_value"]) fun _ _ _ _ _ _ us hl => match us, hl with | [_], _ => rfl
  have gK : mg "_law_is_count" = some (.ref fK) := PySem.W.mg_of X G dK.ns
  have bX := dX.fn.binds (ps := ["_law_place", "_law_number"]) fun _ _ _ _ _ _ us hl => match us, hl with | [_, _], _ => rfl
  have gX : mg "_law_word" = some (.ref fX) := PySem.W.mg_of X G dX.ns
  have bO := dO.fn.binds (ps := ["_law_place"]) fun _ _ _ _ _ _ us hl => match us, hl with | [_], _ => rfl
  have gO : mg "_law_odd" = some (.ref fO) := PySem.W.mg_of X G dO.ns
  have bQ := dQ.fn.binds (ps := ["_law_cell"]) fun _ _ _ _ _ _ us hl => match us, hl with | [_], _ => rfl
  have gQ : mg "_law_one" = some (.ref fQ) := PySem.W.mg_of X G dQ.ns
  have GW : FnOk P w K mg base CX0 1 fW fdW ["value"] (spWhole K) := ok_whole dW.fn TT
  have GI : FnOk P w K mg base CX0 2 fI fdI ["value"] (spInteger K) := ok_integer dI.fn TT dW.fn bW gW
  have GR : FnOk P w K mg base CX0 2 fR fdR ["value"] (spPair K) := ok_pair dR.fn TT GW dW.fn.kp bW gW
  have GP : FnOk P w K mg base CX0 3 fP fdP ["value"] (spPlace K) := ok_place dP.fn GR dR.fn.kp bR gR GI dI.fn.kp bI gI
  have GC : FnOk P w K mg base (L2.CX P w) 4 fC fdC ["place", "number"] (spCell K CA CN) := ok_cell dC.fn TE GP dP.fn.kp bP gP GI dI.fn.kp bI gI
  have GD : FnOk P w K mg base CX0 1 fD fdD ["_law_cell"] spDice := ok_dice dD.fn TB
  have GN : FnOk P w K mg base CX0 1 fN' fdN ["_law_dice_here", "_law_many"] spNext := ok_next dN.fn TB
  have GG : FnOk P w K mg base CX0 2 fG fdG ["_law_dice_here"] spDraw := ok_great dG.fn TB GN dN.fn.kp bN gN
  have GV : FnOk P w K mg base CX0 3 fV fdV ["_law_dice_here"] spDraw := ok_wholeD dV.fn GN dN.fn.kp bN gN GG dG.fn.kp bG gG
  have GK : FnOk P w K mg base CX0 1 fK fdK ["_law_value"] spCount := ok_count dK.fn TT
  have GX : FnOk P w K mg base CX0 5 fX fdX ["_law_place", "_law_number"] (spWord K) := ok_word dX.fn TT TE GC dC.fn.kp bC gC
  have GO : FnOk P w K mg base CX0 1 fO fdO ["_law_place"] (spOdd K) := ok_odd dO.fn
  have GQ : FnOk P w K mg base CX0 6 fQ fdQ ["_law_cell"] spOne := ok_one dQ.fn ⟨boxed GD, gD, dD.fn.kp, bD⟩ ⟨boxed GV, gV, dV.fn.kp, bV⟩ ⟨boxed GP, gP, dP.fn.kp, bP⟩ ⟨boxed GC, gC, dC.fn.kp, bC⟩ ⟨boxed GK, gK, dK.fn.kp, bK⟩ ⟨boxed GO, gO, dO.fn.kp, bO⟩ ⟨boxed GX, gX, dX.fn.kp, bX⟩
  exact ok_law dL.fn ⟨boxed (ok_cells dS.fn TB), gS, dS.fn.kp, bS⟩ ⟨boxed GQ, gQ, dQ.fn.kp, bQ⟩ ⟨boxed GP, gP, dP.fn.kp, bP⟩ ⟨boxed GC, gC, dC.fn.kp, bC⟩
theorem walk {l : PySem.W.OpenLaw} {q : Program} {loose : List Str} {XP : (Str → Option Value) → Heap → Prop} {YP : World → Heap → Prop} {d : DefRec} {K : Params → PySem.W.Frag} (hn : l.most = some 63) (hdf : d.params.defaults = [])
    (hY : ∀ (w : World) (h : Heap), YP w h → (K w.params).In h)
    (F : ∀ (w : World) (mg : Str → Option Value) (fa : Addr) (h : Heap), (K w.params).In h → h.Ns mainGlobals mg → mg d.name = some (.ref fa) →
      ∃ fd : FuncData, (∀ (s : Shared) (u : Value), BindsTo s fd ⟨[u], []⟩ [("_law_script", u)]) ∧ ∀ base : Heap, (K w.params).In base → base.Ns mainGlobals mg → FnOk l.prog w (K w.params) mg base CX0 7 fa fd ["_law_script"] (spLaw (K w.params))) :
    PySem.W.WalkO q loose XP YP l.row.toRowW d [] (fun f vs => PySem.call f vs) :=
  L2.walk_of (n := 63) (k := 7) (x := "_law_script") (CX := fun _ => CX0) (sp := fun w => spLaw (K w.params)) hn (by decide) hdf ⟨rfl, by decide, by decide⟩ hY F (fun _ _ a ns hl _ hS => ⟨a, ns, rfl, hS, hl, fun _ => rfl⟩) fun _ _ _ _ _ z => z
end K9
open PySem PySem.W PyProof.Rows
set_option maxRecDepth 100000 in
set_option maxHeartbeats 0 in
theorem PySem.Challenge.cw_loopfoundry_k09_cells_of_places_holds : PySem.Challenge.rw_loopfoundry_k09_cells_of_places.Holds := by
  w_on; o_law; k_head; (case hw => w_witness2)
  k_fill
  refine K9.walk (l := PySem.Challenge.rw_loopfoundry_k09_cells_of_places) rfl rfl (fun w h Y => PySem.W.kIn_of Y) ?F
  case F =>
    intro w mg fa h KX G hmg
    refine' K9.all_mk KX G hmg ?T ?lg (K9.atTop ?aW ?lW ?cW ?kW) (K9.atTop ?aI ?lI ?cI ?kI) (K9.atTop ?aP ?lP ?cP ?kP) (K9.atTop ?aC ?lC ?cC ?kC) (K9.atTop ?aR ?lR ?cR ?kR) (K9.atTop ?aD ?lD ?cD ?kD) (K9.atTop ?aN ?lN ?cN ?kN) (K9.atTop ?aS ?lS ?cS ?kS) (K9.atTop ?aG ?lG ?cG ?kG) (K9.atTop ?aV ?lV ?cV ?kV) (K9.atTop ?aK ?lK ?cK ?kK) (K9.atTop ?aX ?lX ?cX ?kX) (K9.atTop ?aO ?lO ?cO ?kO) (K9.atTop ?aQ ?lQ ?cQ ?kQ) (K9.atTop ?aL ?lL ?cL ?kL) ?z0 ?z1 ?z2 ?z3 ?z4 ?z5 ?z6 ?z7 ?z8 ?z9 ?hb
    case T =>
      refine' ⟨?nA, ?nF, ?nN, K9.exL ?lcN, ?saN, ?gaN, ?ggN, ?noN, ?inN, ?tfN, ?kpN, ?suN, ?tyN, ?hdN, K9.exF ?lfN ?ccN, ?xA, ?kA, ?bA, ?tA, ?hA, ?gA, ?ggA, ?clA, ?spA, ?tkA, ?moA, ?iF, ?tF, ?sAA, ?sNA, ?sNN, ?sAF, ?sAV⟩
      (case nA => k_is); (case nF => k_is); (case nN => k_is); (case lcN => k_is)
      (case saN => k_is); (case gaN => k_is); (case ggN => k_is); (case noN => k_is); (case inN => k_is); (case tfN => k_is); (case kpN => k_is); (case suN => k_is); (case tyN => k_is); (case hdN => k_is)
      (case lfN => k_is); (case ccN => k_is)
      (case xA => k_exc); (case kA => k_is); (case bA => k_is); (case tA => k_is); (case hA => k_is); (case gA => k_is); (case ggA => k_is); (case clA => k_is); (case spA => k_is); (case tkA => k_is); (case moA => k_is)
      (case iF => k_is); (case tF => k_is); (case sAA => first | rfl | k_is); (case sNA => k_is); (case sNN => first | rfl | k_is); (case sAF => k_is); (case sAV => k_is)
    (case lg => k_is)
    (case aW => k_is); (case lW => k_is); (case cW => k_is); (case kW => k_is)
    (case aI => k_is); (case lI => k_is); (case cI => k_is); (case kI => k_is)
    (case aP => k_is); (case lP => k_is); (case cP => k_is); (case kP => k_is)
    (case aC => k_is); (case lC => k_is); (case cC => k_is); (case kC => k_is)
    (case aR => k_is); (case lR => k_is); (case cR => k_is); (case kR => k_is)
    (case aD => k_is); (case lD => k_is); (case cD => k_is); (case kD => k_is)
    (case aN => k_is); (case lN => k_is); (case cN => k_is); (case kN => k_is)
    (case aS => k_is); (case lS => k_is); (case cS => k_is); (case kS => k_is)
    (case aG => k_is); (case lG => k_is); (case cG => k_is); (case kG => k_is)
    (case aV => k_is); (case lV => k_is); (case cV => k_is); (case kV => k_is)
    (case aK => k_is); (case lK => k_is); (case cK => k_is); (case kK => k_is)
    (case aX => k_is); (case lX => k_is); (case cX => k_is); (case kX => k_is)
    (case aO => k_is); (case lO => k_is); (case cO => k_is); (case kO => k_is)
    (case aQ => k_is); (case lQ => k_is); (case cQ => k_is); (case kQ => k_is)
    (case aL => k_is); (case lL => k_is); (case cL => k_is); (case kL => k_is)
    (case z0 => k_is); (case z1 => k_is); (case z2 => k_is); (case z3 => k_is); (case z4 => k_is); (case z5 => k_is); (case z6 => k_is); (case z7 => k_is); (case z8 => k_is); (case z9 => k_is)
    (case hb => exact fun s v => .of_eq rfl)
