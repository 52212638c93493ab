import PyProof.Rows.All
import Wide.All
import OpenK.AllK
import Wide.FinOn
import PyProof.EqAt
import PyProof.EqKinds
import PyProof.TupleCall
import HandS.Base
import HandS.Call
import HandS.Exc
import KE.KExcInit
import HandS.Ends
import HandS.Comp
import HandS.Dict
import HandS.IsInst
import HandS.Wide
import HandS.ForMost
import HandS.ForExc
import HandS.TupLe
import PyProof.NeKinds
import PyProof.NeData
import PyProof.FactsAll.dict_1
import PyProof.FactsAll.dict_2
import PyProof.FactsAll.subtypes
import PyProof.ReprRoads
import PyProof.CallFns
import HandS.Lambda
import HandS.EndBits
import HandS.EndTab
import HandS.Zip
import HandS.Walk
import KE.DataCmp
import HandS.Flow
import HandS.SortKw
import KE.KMinKey
import PyProof.WalkInts
import HandS.Star
import HandS.MakeKwOnly
import HandS.Property
import HandS.TupAny
import HandS.TryOnly
import HandS.GenList
import HandS.Words
import HandS.WordsExc
import HandS.SlotsOwn
import OpenK.KMeth
import PyProof.Conv_bool
import HandS.Records
import HandS.OwnEq
import HandS.More
import HandS.Small
import HandS.TupLen
import HandS.ExcIs
import PySem.Challenge.RW_loopfoundry_k14_whole_peeled_and_unrolle
set_option Elab.async false
set_option linter.all false
set_option maxRecDepth 100000
set_option maxHeartbeats 4000000
/-! try: body, several clauses «except C as n», all with one name n -/
namespace L2.My
open PySem PySem.Spec PyProof.Rows
abbrev Suite := Addr → Value → Option Addr → TS
structure Clause where
  cls : Value
  run : Suite
def clr (i : Nat) (D : Ends) : Ends :=
  { nx := fun σ H => D.nx (σ.set i none) H
    rt := D.rt
    bk := fun σ H => D.bk (σ.set i none) H
    ct := fun σ H => D.ct (σ.set i none) H }
/-- what the clauses wish: the first one that takes it runs its suite with the error in slot i -/
def wish (K : PySem.W.Frag) (i : Nat) (out : WX) (D : Ends) : List Clause → WX
  | [] => out
  | k :: r => fun c d σ H => ∃ b, PySem.W.exmOne K c k.cls = some b ∧
      (b = true → ∀ a, H a = none → k.run a c d (clr i D) (σ.set i (some (.ref a))) H) ∧
      (b = false → wish K i out D r c d σ H)
inductive ClOk (X : Cx) (n : Str) : List ExceptHandler → List Clause → Prop
  | nil : ClOk X n [] []
  | cons {x : Str} {c : Value} {ts : Suite} {b0 : Stmt} {bs : List Stmt} {q1 q2 : Pos} {hs : List ExceptHandler} {l : List Clause}
      (named : Names X x c)
      (body : ∀ (a : Addr) (o : Obj) (k : Value) (d : Option Addr) (pn : List (Addr × Obj)), Zc k d o → (∃ v, o.data = .fields v) →
        PSs (X.suite a ((a, o) :: pn)) (b0 :: bs) (ts a k d))
      (more : ClOk X n hs l) :
      ClOk X n (.ExceptHandler (some (.Name x q1)) (some n) (b0 :: bs) q2 :: hs) (⟨c, ts⟩ :: l)
section
variable {X : Cx} {n : Str} {i : Nat} {out : WX} {pins : List (Addr × Obj)} {σ : St} {H : Hp} {D : Ends}
/-- an exception at a that has come down to the try's frame -/
structure Down (X : Cx) (pins : List (Addr × Obj)) (σ : St) (H : Hp) (a : Addr) (B : Heap) (c : Value) (d : Option Addr) (sI t : Shared) : Prop where
  inv : Inv X pins σ H sI
  gr : ∀ b o, sI.heap.get? b = some o → b ∉ frs X.stack → B.get? b = some o
  up : sI.heap.UpToSlots t.heap
  fl : HandSPX.FlyingZ B (X.env :: X.outer) a (Zc c d) t.heap
  nil : H a = none
  os : t.os = sI.os
  bare : AllBare t.gens
/-- the same a few turns of the frames later -/
theorem Down.on {a : Addr} {B h : Heap} {c : Value} {d : Option Addr} {sI t : Shared} (w : Down X pins σ H a B c d sI t)
    (fl : HandSPX.FlyingZ B (X.env :: X.outer) a (Zc c d) h) (up : t.heap.UpToSlots h) : Down X pins σ H a B c d sI { t with heap := h } :=
  ⟨w.inv, w.gr, w.up.trans up, fl, w.nil, w.os, w.bare⟩
/-- the suite's own state -/
theorem Down.held (fr : X.env.frame = some X.env.locals) {a : Addr} {B : Heap} {c : Value} {d : Option Addr} {sI t : Shared} (w : Down X pins σ H a B c d sI t) :
    ∃ o, t.heap.get? a = some o ∧ Zc c d o ∧ (∃ v, o.data = .fields v) ∧ Inv (X.suite a ((a, o) :: (X.pn ++ pins))) [] σ H t ∧ X.K.In t.heap := by
  have J : Inv X pins σ H t := w.inv.landed w.gr w.fl.1 w.up w.os w.bare
  obtain ⟨o, v, eo, z, dv⟩ := w.fl.there
  have apart : a ∉ frs (X.env :: X.outer) := by
    intro hm
    obtain ⟨_, o2, e2, nf⟩ := w.fl.2.2.1.mem hm
    rw [eo] at e2
    cases e2
    exact nf _ dv
  have away : ∀ e ∈ X.env :: X.outer, e.frame ≠ some a := by
    intro e he q
    exact apart (List.mem_filterMap.mpr ⟨e, he, q⟩)
  refine ⟨o, eo, z, ⟨v, dv⟩, J.suite eo dv w.nil ?_ ?_, J.kIn⟩
  · intro q
    exact away _ (List.mem_cons_self ..) (q ▸ fr)
  · intro q
    obtain ⟨e, he, q⟩ := List.mem_filterMap.mp q
    exact away e (List.mem_cons_of_mem _ he) q
/-- no clause takes it: it flies on -/
theorem Down.pass (st : X.stack = X.env :: X.outer) (fr : X.env.frame = some X.env.locals) (tk : Takes X out) {a : Addr} {B : Heap} {c : Value} {d : Option Addr} {sI t : Shared} (w : Down X pins σ H a B c d sI t)
    (q : out c d σ H) : wpAny (model X.prog X.w) X.A (handleBy (.ref a) X.env []) (SP X pins D) X.xe t := by
  obtain ⟨_, _, _, o, v, T, _, _, eo, _, dv, e1, _⟩ := id w.fl
  have go : wpAny (model X.prog X.w) X.A (setFlight (.ref a) X.env.frame)
      (fun _ t2 => wpAny (model X.prog X.w) X.A (throw (.ref a) : Sem Flow) (SP X pins D) X.xe t2) X.xe t := by
    rw [fr]
    refine HandSPX.setFlight_upZ w.fl ?_
    intro h2 held u2
    refine wpAny_throw (tk _ _ ⟨a, B, sI, pins, σ, H, c, d, rfl, w.inv, w.gr, w.up.trans u2, ?_, w.nil, w.os, w.bare, q⟩)
    rw [st]
    exact Or.inr (Or.inr held)
  refine wpAny_handleBy_nil ?_
  unfold PySem.passOn
  refine wpAny_bind (wpAny_field eo dv e1 ?_)
  have nt : ¬ (Value.ref T == Value.none) = true := by simp
  rw [if_neg nt]
  first
    | exact wpAny_bind go
    | exact wpAny_bind (wpAny_pure (wpAny_bind go))
/-- the clauses, one after the other -/
theorem Down.clauses (st : X.stack = X.env :: X.outer) (fr : X.env.frame = some X.env.locals) (nd : X.N.Nodup) (hi : X.N[i]? = some n) (loc : X.env.kindOf n = some .local) (tk : Takes X out)
    {a : Addr} {B : Heap} {c : Value} {d : Option Addr} {sI t : Shared} (w : Down X pins σ H a B c d sI t) {hs : List ExceptHandler} {l : List Clause} (k : ClOk X n hs l) :
    wish X.K i out D l c d σ H → wpAny (model X.prog X.w) X.A (handleBy (.ref a) X.env hs) (SP X pins D) X.xe t := by
  induction k with
  | nil => exact fun q => w.pass st fr tk q
  | @cons x cc ts b0 bs q1 q2 hs l named body more ih =>
    rintro ⟨b, eb, yes, no⟩
    obtain ⟨o, eo, z, _, S, kin⟩ := w.held fr
    have ty : PySem.W.Looks (model X.prog X.w) t.heap (typeOf (.ref a)) c :=
      fun _ _ _ _ k2 q => wpAny_typeOf_ref (k2 _ _ eo) (by rw [z.1]; exact q)
    have said := PySem.W.exm_one (M := model X.prog X.w) kin ty eb
    have ask : ∀ {Q E : Value → Shared → Prop}, Q cc t →
        wpAny (model X.prog X.w) (X.A.mark (some (.ref a))) (eval (.Name x q1) X.env) Q E t := by
      intro Q E q
      rcases named with ⟨gl, db, mine | ⟨no1, bt, no2⟩⟩
      · exact ld_glob S gl mine q db
      · exact ld_blt S gl no1 bt q no2 db
    refine wpAny_handleBy_cons (codeAny_handlers_test (ask (said.here ?_))) (by intro q; cases q)
    cases b with
    | false =>
      show wpAny _ X.A (handleBy (.ref a) X.env hs) _ _ _
      exact ih (no rfl)
    | true =>
      refine codeAny_handlers_suite_as (HandSPX.lands_againZ w.fl fun h2 f2 u2 => ?_)
      obtain ⟨o2, eo2, z2, dv2, S2, _⟩ := (w.on f2 u2).held fr
      have ok := w.inv.ok
      refine store_ok (X := X.suite a ((a, o2) :: (X.pn ++ pins))) (v := .ref a) S2 nd hi (.inl loc) rfl (fun s5 S5 => ?_) (.inr loc)
      refine wpAny_mono ((body a o2 c d (X.pn ++ pins) z2 dv2).run [] s5 _ H _ S5 (yes rfl a w.nil)) ?_ (fun _ _ e => e.elim)
      intro f s6 r
      have away : ∀ {σ6 : St} {H6 : Hp} {Q : Shared → Prop}, Inv (X.suite a ((a, o2) :: (X.pn ++ pins))) [] σ6 H6 s6 →
          (∀ s7, Inv X pins (σ6.set i none) H6 s7 → Q s7) →
          wpAny (model X.prog X.w) X.A (do bindName X.env n .none; unbindBehindTheSuite X.env n q2) (fun _ s7 => Q s7) X.xe s6 :=
        fun S6 q => gone_ok (S6.unsuite ok) nd hi loc q
      cases f with
      | ret u => obtain ⟨v6, σ6, H6, S6, r6, q6⟩ := r; exact away S6 fun _ J => ⟨_, _, _, J, r6, q6⟩
      | next => obtain ⟨σ6, H6, S6, q6⟩ := r; exact away S6 fun _ J => ⟨_, _, J, q6⟩
      | cont => obtain ⟨σ6, H6, S6, q6⟩ := r; exact away S6 fun _ J => ⟨_, _, J, q6⟩
      | brk => obtain ⟨σ6, H6, S6, q6⟩ := r; exact away S6 fun _ J => ⟨_, _, J, q6⟩
/-- THE RULE -/
theorem ps_try_clauses {body : List Stmt} {h0 : ExceptHandler} {hs : List ExceptHandler} {l : List Clause} {tb : WX → TS} {pos : Pos}
    (st : X.stack = X.env :: X.outer) (fr : X.env.frame = some X.env.locals) (nd : X.N.Nodup) (hi : X.N[i]? = some n) (loc : X.env.kindOf n = some .local) (tk : Takes X out)
    (hb : ∀ (W : WX) (pn : List (Addr × Obj)) (xe : Value → Shared → Prop), Takes (X.tr pn xe) W → PassesOwn (model X.prog X.w) X.A X.env xe → PSs (X.tr pn xe) body (tb W))
    (k : ClOk X n (h0 :: hs) l) : PS X (.Try body (h0 :: hs) [] [] pos) (fun D σ H => tb (wish X.K i out D l) D σ H) := by
  refine ⟨fun pins s σ H D I h => wpAny_Try_except ?_⟩
  have ok := I.ok
  have frames : X.A.frames = some (X.env :: X.outer) := ok.frames.trans (congrArg some st)
  obtain ⟨xe, exe⟩ : ∃ xe : Value → Shared → Prop, xe = fun e s1 => wpAny (model X.prog X.w) X.A (noteFrame e X.env)
      (fun _ s2 => wpAny (model X.prog X.w) X.A (setFlight e none) (fun _ s3 => wpAny (model X.prog X.w) X.A (handleBy e X.env (h0 :: hs)) (SP X pins D) X.xe s3) X.xe s2) X.xe s1 := ⟨_, rfl⟩
  have caught : Takes (X.tr (X.pn ++ pins) xe) (wish X.K i out D l) := by
    rintro u s1 ⟨a, B, sI, pins1, σ1, H1, c, d, rfl, J, gr, up, sky, na, os, ag, q⟩
    show xe (.ref a) s1
    rw [exe]
    have sky1 : Sky B (X.env :: X.outer) a (Zc c d) X.env.locals s1.heap := st ▸ sky
    refine Sky.land Zc.steady frames fr sky1 fun h3 f3 u3 => ?_
    have w : Down X pins σ1 H1 a B c d sI { s1 with heap := h3 } := ⟨J.ofTry ok, gr, up.trans u3, f3, na, os, ag⟩
    exact w.clauses st fr nd hi loc tk k q
  have own : PassesOwn (model X.prog X.w) X.A X.env xe := by
    rw [exe]
    exact PassesOwn.looking
  refine wpAny_mono ((hb _ (X.pn ++ pins) xe caught own).run [] s σ H D (I.toTry _) h) ?_ ?_
  · intro f s1 r
    cases f with
    | ret u => obtain ⟨v, σ1, H1, J, r1, q⟩ := r; exact ⟨v, σ1, H1, J.ofTry ok, r1, q⟩
    | next => obtain ⟨σ1, H1, J, q⟩ := r; exact wpAny_execs_nil ⟨σ1, H1, J.ofTry ok, q⟩
    | cont => obtain ⟨σ1, H1, J, q⟩ := r; exact ⟨σ1, H1, J.ofTry ok, q⟩
    | brk => obtain ⟨σ1, H1, J, q⟩ := r; exact ⟨σ1, H1, J.ofTry ok, q⟩
  · intro e s1 he
    have he' : xe e s1 := he
    rw [exe] at he'
    exact he'
end
end L2.My
/-! an own error class over any of the eleven built-in bases, whose __init__(self, value) keeps value -/
namespace L2.My
open PySem PySem.Spec PyProof.Rows PySem.W PySem.Calls
def initArgs (p q : Pos) : Arguments :=
  { posonlyargs := [], args := [⟨"self", none, p⟩, ⟨"value", none, q⟩], vararg := none, kwonlyargs := [], kw_defaults := [], kwarg := none, defaults := [] }
def initBody (a b c d : Pos) : List Stmt := [.Assign [.Attribute (.Name "self" a) "value" b] (.Name "value" c) d]
def initScope : Scope :=
  { kind := .function, names := [(Str.ofString "self", .local), (Str.ofString "value", .local)], isGenerator := false, isCoroutine := false, more := [] }
/-- what the top's written part says of the class (at C, called nm in the module) and of its __init__ (at f) -/
structure ErrCls (K : Frag) (mg : Str → Option Value) (nm : Str) (qi : Str) (newId : String) (bmB : List Value) (C f : Addr) : Prop where
  gl : mg nm = some (.ref C)
  cl : ∃ n q N bs bm sn sub ab col dd k0 k1 k2 k3 k5, K.lookup C = some (excClassObj n q C N bs bm true sn sub ab col dd k0 k1 k2 k3 k5 newId) ∧ excTail bmB bm = true
  sa : findIn K (.ref C) "__setattr__" = some (some (.builtin "object.__setattr__"))
  ga : findIn K (.ref C) "__getattribute__" = some (some (.builtin "BaseException.__getattribute__"))
  gg : findIn K (.ref C) "__getattr__" = some none
  no : findIn K (.ref C) "value" = some none
  ini : findIn K (.ref C) "__init__" = some (some (.ref f))
  tf : typeIn K (.ref f) = some (.type "function")
  kp : keepIn K (.ref C) = true
  sub : subIn K (.ref C) (.type "BaseException") = some true
  ty : typeIn K (.ref C) = some (.type "type")
  hd : hasDictIn K C = true
  fn : ∃ (oc : Value) (od : Option Addr) (doc pm : Value) (an : Option Addr) (cd ct : Value) (sl : Array (Option Value)) (p q a b c d : Pos),
    K.lookup f = some ⟨oc, od, .func (fnOf "__init__" qi (initArgs p q) (initBody a b c d) initScope .none .none doc pm an cd ct), sl⟩ ∧ codeIn K cd qi = true
section
variable {prog : Program} {w : World} {A : Around} {E : Value → Shared → Prop} {R : Result → Shared → Prop} {s : Shared} {K : Frag} {mg : Str → Option Value}
variable {nm qi : Str} {B newId initId : String} {bmB : List Value} {C f : Addr}
theorem ErrCls.cls (T : ErrCls K mg nm qi newId bmB C f) : ∃ cd bm, clsIn K C = some cd ∧ cd.mro = .ref C :: bm ∧ excTail bmB bm = true ∧ cd.hasDict = true := by
  obtain ⟨n, q, N, bs, bm, sn, sub, ab, col, dd, k0, k1, k2, k3, k5, h, t⟩ := T.cl
  refine ⟨{ name := n, bases := bs, mro := .ref C :: bm, ns := N, qualname := q, hasDict := true, slotNames := sn, subclasses := sub, abstract := ab, collection := col, hasDel := false }, bm, ?_, rfl, t, rfl⟩
  unfold clsIn
  rw [h] <;> rfl
theorem ErrCls.over (T : ErrCls K mg nm qi newId bmB C f) : excOver K C bmB = true := by
  obtain ⟨cd, bm, h, m, t, _⟩ := T.cls
  unfold excOver
  rw [h]
  simp [m, t]
theorem ErrCls.taker (T : ErrCls K mg nm qi newId bmB C f) : takerIn K C "value" = some none := by
  unfold takerIn
  rw [T.no]
  rfl
/-- the first field of a fresh exception at x -/
theorem first_field (SF : StoreFacts B bmB "object.__setattr__" "object") (T : ErrCls K mg nm qi newId bmB C f) {x t0 : Addr} {tk : Tok} {v : Value} (X : K.In s.heap) (hx : s.heap.get? x = some (HandSPX.excO C t0))
    (hq : ∀ h' tk' dx, (∀ b o, b ≠ x → s.heap.get? b = some o → h'.get? b = some o) → s.heap.objs.size ≤ dx → dx ≠ x →
      h'.get? x = some { cls := .ref C, dict := some dx, data := .fields #[.ref t0, .none, .none, .none, .bool false, .none] } →
      h'.Ns1 dx (fun y => if y = "value" then some v else none) → R (.ok (.ret .none)) { s with heap := h', toks := tk' }) :
    codeAny (model prog w) A (.call (.builtin "object.__setattr__") ⟨[.ref x, .str "value" tk, v], []⟩) R s := by
  obtain ⟨cd, bm, hcd, _, _, dic⟩ := T.cls
  have I : InstAt s.heap x (HandSPX.excO C t0) C none := ⟨hx, rfl, rfl, trivial⟩
  have far : x ≠ s.heap.objs.size := Nat.ne_of_lt (Heap.lt_size hx)
  refine osa_openX SF X I T.over T.taker fun b => ?_
  have Lc : Looks (model prog w) s.heap (classData C) cd := looks_clsIn X hcd
  obtain ⟨hp, g, d, t, os⟩ := s
  obtain ⟨n1, bs1, mro1, ns1, q1, hd1, sn1, sb1, ab1, co1, del1⟩ := cd
  dsimp only at dic
  subst dic
  dsimp only at hx far
  unfold Builtin.ObjectAttr.storeInOwnDict Builtin.ObjectAttr.ownDictForStores
  repeat (first | with_reducible refine HandSPX.store_in_new ?_ ?_ | with_reducible refine wpAny_loadPart_at hx ?_ | with_reducible refine Lc.at ?_ | wp_step)
  · exact ⟨_, #[], _, (Heap.get?_update_ne _ _ _ _ far.symm).trans (Heap.get?_push_at rfl rfl), rfl, fun e he => absurd he (by simp), fun _ => rfl⟩
  · intro h' tk' hn sb
    have hx1 : (hp.push { cls := .type "dict", data := .dict #[] }).get? x = some (HandSPX.excO C t0) := Heap.get?_push_of_some _ hx
    refine hq h' tk' hp.objs.size ?_ (Nat.le_refl _) far.symm ((sb.2 x far).trans (Heap.get?_update_self _ hx1 rfl)) hn
    intro b o nb e
    exact (sb.2 b (Nat.ne_of_lt (Heap.lt_size e))).trans ((Heap.get?_update_ne _ _ _ _ nb).trans (Heap.get?_push_of_some _ e))
theorem own_name {M : Model} {scope : Scope} {name x : Str} {L a : Addr} {cd v : Value} {m : Str → Option Value} {pos : Pos} {Q : Value → Shared → Prop}
    (hn : s.heap.Ns L m) (hv : m x = some v) (h : Q v s) (k1 : scope.kind = .function := by rfl) (k2 : (envOfC name scope L a cd).kindOf x = some .local := by rfl) (k3 : (x == ("__debug__" : Str)) = false := by decide) :
    wpAny M A (eval (.Name x pos) (envOfC name scope L a cd)) Q E s := wpAny_Name (wpAny_loadName_local k1 k2 hn hv h) k3
/-- what __init__ leaves of a fresh exception at x -/
structure Kept (h h' : Heap) (x C dx t : Addr) (v : Value) : Prop where
  old : ∀ b o, b ≠ x → h.get? b = some o → h'.get? b = some o
  me : h'.get? x = some { cls := .ref C, dict := some dx, data := .fields #[.ref t, .none, .none, .none, .bool false, .none] }
  far : h.objs.size ≤ dx
  ne : dx ≠ x
  ns : h'.Ns1 dx (fun y => if y = "value" then some v else none)
theorem ErrCls.init (SF : StoreFacts B bmB "object.__setattr__" "object") (T : ErrCls K mg nm qi newId bmB C f) {x t0 : Addr} {v : Value} (X : K.In s.heap) (lim : s.heap.NoLimit) (hx : s.heap.get? x = some (HandSPX.excO C t0))
    (room : A.depth < recursionLimit) (hq : ∀ h' tk dx, Kept s.heap h' x C dx t0 v → R (.ok (.ret .none)) { s with heap := h', toks := tk }) :
    codeAny (model prog w) A (.call (.ref f) ⟨[.ref x, v], []⟩) R s := by
  obtain ⟨oc, od, doc, pm, an, cd, ct, sl, p, q, a, b, c, d, lf, hcd⟩ := T.fn
  refine Att.call_fn (binds := [("self", .ref x), ("value", v)]) X lim lf hcd room (BindsTo.of_eq (by first | rfl | with_unfolding_all rfl)) (by first | rfl | decide | with_unfolding_all rfl) (fun s1 IC => ?_) rfl rfl rfl
  obtain ⟨h1, tk1, rfl⟩ := IC.toInCall.same
  have old : ∀ b o, s.heap.get? b = some o → h1.get? b = some o := IC.toInCall.keep
  have ns := IC.toInCall.ns
  have hx1 := old _ _ hx
  have X1 : K.In h1 := X.keeps old
  show wpAny _ _ (execs _ _) _ _ _
  refine wpAny_execs_cons (plainObj_wpAny_Assign_Attribute (own_name (v := v) ns (by first | rfl | with_unfolding_all rfl | kernel_rfl) (own_name (v := .ref x) ns (by first | rfl | with_unfolding_all rfl | kernel_rfl) ?_)))
  refine set_plain X1 (ox := HandSPX.excO C t0) (od := none) ⟨hx1, rfl, rfl, trivial⟩ T.sa (first_field SF T X1 hx1 fun h2 tk2 dx k2 far ne me n2 => ?_)
  show wpAny _ _ (execs _ _) _ _ _
  have more : s.heap.objs.size < h1.objs.size := ns.lt
  exact wpAny_execs_nil (hq h2 tk2 dx ⟨fun b o nb e => k2 b o nb (old b o e), me, Nat.le_of_lt (Nat.lt_of_lt_of_le more far), ne, n2⟩)
/-- a made error -/
structure Made (h h' : Heap) (e C d : Addr) (v : Value) : Prop where
  old : ∀ b o, h.get? b = some o → h'.get? b = some o
  new : h.objs.size ≤ e
  me : ∃ oe vs, h'.get? e = some oe ∧ oe.cls = .ref C ∧ oe.dict = some d ∧ oe.data = .fields vs ∧ vs[1]? = some .none
  far : h.objs.size ≤ d
  ne : d ≠ e
  ns : h'.Ns1 d (fun y => if y = "value" then some v else none)
theorem ErrCls.make (FB : ExcBaseFacts B newId initId bmB) (SF : StoreFacts B bmB "object.__setattr__" "object") (T : ErrCls K mg nm qi newId bmB C f) {v : Value} (X : K.In s.heap) (lim : s.heap.NoLimit) (room : A.depth + 1 < recursionLimit)
    (hq : ∀ h' tk e d, Made s.heap h' e C d v → R (.ok (.ret (.ref e))) { s with heap := h', toks := tk }) :
    codeAny (model prog w) A (.call (.ref C) ⟨[v], []⟩) R s := by
  obtain ⟨n, q, N, bs, bm, sn, sub, ab, col, dd, k0, k1, k2, k3, k5, lc, tl⟩ := T.cl
  obtain ⟨hp, g, dr, tk, os⟩ := s
  obtain ⟨hp2, ehp2⟩ : ∃ h2, h2 = (hp.push (kdv_tup [v])).push (HandSPX.excO C hp.objs.size) := ⟨_, rfl⟩
  have old : ∀ b o, hp.get? b = some o → hp2.get? b = some o := fun b o e => by
    rw [ehp2]
    exact Heap.get?_push_of_some _ (Heap.get?_push_of_some _ e)
  have me : hp2.get? (hp.objs.size + 1) = some (HandSPX.excO C hp.objs.size) := by rw [ehp2]; heap_get
  have z2 : hp2.objs.size = hp.objs.size + 1 + 1 := by rw [ehp2, Heap.size_push, Heap.size_push]
  refine HandSPX.call_own FB (fun Y => excTail_contains Y bm tl) (X _ _ lc) (looks_findIn X T.ini) (fun self => bind_fn X self T.tf) (by rw [sizeLine_eq]; exact (by decide : 1 ≤ 16777216)) ?_
  rw [← ehp2]
  refine ErrCls.init (s := ⟨hp2, g, dr, tk, os⟩) SF T (X.keeps old) (lim.keeps old) me room fun h' tk' dx k => ?_
  have o2 : ∀ b o, hp.get? b = some o → h'.get? b = some o := fun b o e =>
    k.old b o (Nat.ne_of_lt (Nat.lt_succ_of_lt (Heap.lt_size e))) (old b o e)
  have far := k.far
  dsimp only at far
  rw [z2] at far
  exact ⟨rfl, hq h' tk' _ dx ⟨o2, Nat.le_succ _, ⟨_, _, k.me, rfl, rfl, rfl, rfl⟩, Nat.le_trans (Nat.le_trans (Nat.le_succ _) (Nat.le_succ _)) far, k.ne, k.ns⟩⟩
end
theorem rel_value {v : V} {u : Value} (r : RelV v u) (g : Str) : RelO (List.lookup g [(("value" : Str), v)]) (if g = "value" then some u else none) := by
  by_cases e : g = "value"
  · rw [if_pos e, e, show List.lookup ("value" : Str) [(("value" : Str), v)] = some v by simp [List.lookup]]
    exact r
  · have e2 : (g == ("value" : Str)) = false := by simpa using e
    rw [if_neg e, show List.lookup g [(("value" : Str), v)] = none by simp [List.lookup, e2]]
    trivial
section
variable {X : Cx} {nm qi : Str} {B newId initId : String} {bmB : List Value} {C f : Addr}
/-- C(e) as what is raised: its own dict d is new and holds value -/
def tErr (C : Addr) (ta : TA) : L2.St → Hp → XK → Prop := fun σ H Q => ta σ H fun vs H1 => ∃ v, vs = [v] ∧ ∀ d, H1 d = none → Q (.ref C) (some d) (upd H1 d (.xd [(("value" : Str), v)]))
theorem pmk_err {a : Expr} {ta : TA} {p pos : Pos} {k : Nat} (FB : ExcBaseFacts B newId initId bmB) (SF : StoreFacts B bmB "object.__setattr__" "object") (T : ErrCls X.K X.mg nm qi newId bmB C f) (hr : Room k X.A) (ha : PA X [a] ta) (hg : Gl X nm)
    (hdb : (nm == ("__debug__" : Str)) = false := by decide)
    (he : starEach (a :: []) X.env = (false, eval a X.env) :: starEach [] X.env := by rfl) (hpl : (backTo pos (starEach [] X.env)).any (·.1) = false := by rfl) :
    PMk X (.Call (.Name nm p) [a] [] pos) (tErr C ta) := by
  intro pins s σ H Q I h
  refine wpAny_Call_Name_kw (ld_glob I hg T.gl (callWith_K (h₀ := X.base) I.ok.mod.kin T.kp (thn (ha.run pos pins s σ H _ I h) fun us s1 hh => ?_) he hpl) hdb)
  obtain ⟨vs, H1, I1, r1, v, rfl, q1⟩ := hh
  refine ⟨I1.kIn, ?_⟩
  obtain ⟨u, rfl, rv⟩ : ∃ u, us = [u] ∧ RelV v u := by
    cases r1 with
    | cons ru rn =>
      cases rn
      exact ⟨_, rfl, ru⟩
  show wpAny _ _ (call (.ref C) [u]) _ _ _
  have lim := I1.nolimit
  obtain ⟨hp, g, dr, tk, os⟩ := s1
  refine wpAny_call (ErrCls.make FB SF T I1.kIn lim (by have := hr.dp; omega) fun h' tk' e d M => ?_)
  show MkP X pins σ Q (.ref e) ⟨h', g, dr, tk', os⟩
  obtain ⟨oe, fv, eo, ec, ed, dt, e1⟩ := M.me
  obtain ⟨G, g1, g2⟩ := restrict h' fun b => decide (b ≠ e)
  have same : ∀ b, b ≠ e → G.get? b = h'.get? b := fun b nb => g1 b (decide_eq_true nb)
  have gone : G.get? e = none := g2 e (by simp)
  have old : ∀ b o, hp.get? b = some o → G.get? b = some o := fun b o z =>
    (same b (Nat.ne_of_lt (Nat.lt_of_lt_of_le (Heap.lt_size z) M.new))).trans (M.old b o z)
  have fresh : H1 e = none := I1.hok.fresh M.new
  have there : ObjOk X.prog X.w (upd H1 d (.xd [(("value" : Str), v)])) G d (.xd [(("value" : Str), v)]) :=
    ⟨_, M.ns.at (fun o z => (same d M.ne).trans z), rel_value rv⟩
  have J : Inv X pins σ (upd H1 d (.xd [(("value" : Str), v)])) ⟨G, g, dr, tk', os⟩ := I1.laid (t' := tk') old M.far there
  refine ⟨e, oe, fv, ⟨G, g, dr, tk', os⟩, _, .ref C, some d, rfl, J, ?_, gone, eo, ⟨ec, ed⟩, dt, e1, ?_, rfl, I1.bare, raises_own T.sub T.ty, q1 d (I1.hok.fresh M.far)⟩
  · intro b o z
    have nb : b ≠ e := by
      rintro rfl
      have z' : G.get? b = some o := z
      rw [gone] at z'
      cases z'
    exact (same b nb).symm.trans z
  · rw [upd_ne (Ne.symm M.ne)]
    exact fresh
def tRaiseErr (C : Addr) (W : WX) (ta : TA) : TS := fun _ σ H => tErr C ta σ H fun c d H' => W c d σ H'
theorem ps_raiseErr {a : Expr} {ta : TA} {W : WX} {p pos pos2 : Pos} {k : Nat} (FB : ExcBaseFacts B newId initId bmB) (SF : StoreFacts B bmB "object.__setattr__" "object") (hc : X.calm = true) (T : ErrCls X.K X.mg nm qi newId bmB C f) (hr : Room k X.A) (tk : Takes X W) (ha : PA X [a] ta) (hg : Gl X nm)
    (hdb : (nm == ("__debug__" : Str)) = false := by decide)
    (he : starEach (a :: []) X.env = (false, eval a X.env) :: starEach [] X.env := by rfl) (hpl : (backTo pos (starEach [] X.env)).any (·.1) = false := by rfl) :
    PS X (.Raise (some (.Call (.Name nm p) [a] [] pos)) none pos2) (tRaiseErr C W ta) := ps_raise hc tk (pmk_err FB SF T hr ha hg hdb he hpl)
/-- error.value in the suite of such an error -/
def tOfErr (C a : Addr) (cls : Value) (d : Option Addr) (te : TE) : TE := fun σ H Q => te σ H fun x H1 => x = .ref a ∧ cls = .ref C ∧ ∃ (dd : Addr) (v : V), d = some dd ∧ H1 dd = some (.xd [(("value" : Str), v)]) ∧ Q v H1
theorem pe_ofErr {a : Addr} {oe : Obj} {cls : Value} {d : Option Addr} {pn : List (Addr × Obj)} {e : Expr} {te : TE} {pos : Pos} (T : ErrCls X.K X.mg nm qi newId bmB C f) (hz : Zc cls d oe) (hf : ∃ vs, oe.data = .fields vs) (he : PE (X.suite a ((a, oe) :: pn)) e te)
    (hb : attributeBase e "value" X.env (eval e X.env) = eval e X.env := by rfl) :
    PE (X.suite a ((a, oe) :: pn)) (.Attribute e "value" pos) (tOfErr C a cls d te) := by
  refine ⟨fun pins s σ H Q I h => attr_of hb (thn (he.run pins s σ H _ I h) fun u s1 hh => ?_)⟩
  obtain ⟨x, H1, I1, rx, rfl, rfl, dd, v, rfl, ea, q⟩ := hh
  obtain rfl : u = Value.ref a := rx
  obtain ⟨vs, dt⟩ := hf
  obtain ⟨at_, _⟩ := I1.pin (a, oe) (List.mem_append_left _ List.mem_cons_self)
  obtain ⟨mA, hns, hr⟩ := (show ObjOk X.prog X.w H1 s1.heap dd (.xd [(("value" : Str), v)]) from I1.hok dd _ ea)
  obtain ⟨od, ho, hl⟩ := lookIn_ns hns
  obtain ⟨u, hu, ru⟩ := RelO.some_of (v := v) (o := mA "value") (by
    rw [← (show List.lookup ("value" : Str) [(("value" : Str), v)] = some v by simp [List.lookup])]
    exact hr "value")
  have J : InstAt s1.heap a oe C (some od) := ⟨at_, hz.1, by unfold notCls; rw [dt] <;> rfl, by rw [hz.2]; exact ho⟩
  exact HandSPX.exc_get I1.kIn J T.ga T.gg T.sub (findObj_own T.hd T.no rfl (by rw [hl, hu])) (handed_of ru) ⟨v, H1, I1.tok _, ru, q⟩
end
end L2.My
namespace K14
open PySem L2
open L2.My
def top (i : Nat) : Stmt := PySem.Challenge.pw_loopfoundry_k14_whole_peeled_and_unrolle.main.body.getD i (.Pass ⟨0, 0, 0, 0⟩)
abbrev tWhole : Stmt := top 6
abbrev tPair : Stmt := top 10
abbrev tWideI : Stmt := top 11
abbrev tWidePl : Stmt := top 12
abbrev tCounter : Stmt := top 13
abbrev tChkB : Stmt := top 14
abbrev tDiv : Stmt := top 15
abbrev tLine : Stmt := top 16
abbrev tAfter : Stmt := top 17
abbrev tSlacks : Stmt := top 18
abbrev tLimits : Stmt := top 19
abbrev tSpan : Stmt := top 20
abbrev tGoes : Stmt := top 21
abbrev tLeast : Stmt := top 22
abbrev tEmpty : Stmt := top 24
abbrev tDice : Stmt := top 27
abbrev tNextD : Stmt := top 28
abbrev tCells : Stmt := top 29
abbrev tGreat : Stmt := top 30
abbrev tWholeD : Stmt := top 31
abbrev lSteps : Stmt := top 32
abbrev lMade : Stmt := top 33
abbrev lCount : Stmt := top 34
abbrev lTruth : Stmt := top 35
abbrev lBounds : Stmt := top 36
abbrev lOne : Stmt := top 46
abbrev tLaw : Stmt := top 47
abbrev mInit : Stmt := inClass (top 25) 0
abbrev mFind : Stmt := inClass (top 25) 1
abbrev mPlace : Stmt := inClass (top 25) 2
abbrev mOther : Stmt := inClass (top 25) 3
abbrev mLow : Stmt := inClass (top 25) 4
abbrev mHigh : Stmt := inClass (top 25) 5
abbrev mFirst : Stmt := inClass (top 25) 6
abbrev mRounds : Stmt := inClass (top 25) 7
abbrev mNearest : Stmt := inClass (top 25) 8
abbrev mPaper : Stmt := inClass (top 25) 13
abbrev mBool : Stmt := inClass (top 25) 15
/-! ### values by what the checks see of them -/
abbrev kinds : List String := ["bool", "NoneType", "str", "list", "dict"]
/-- an int (told), or something else of a known type -/
inductive Item (K : PySem.W.Frag) (H : Hp) : V → Option Int → Prop
  | int (i : Int) : Item K H (.int i) (some i)
  | other {x : V} {n : String} (t : TyX K H x (.type n)) (m : n ∈ "tuple" :: kinds) : Item K H x none
/-- a pair of two items (told), or something else -/
inductive Two (K : PySem.W.Frag) (H : Hp) : V → Option (Option Int × Option Int) → Prop
  | no {x : V} {n : String} (t : TyX K H x (.type n)) (m : n ∈ "int" :: kinds) : Two K H x none
  | tup {a : Addr} {xs : List V} (e : H a = some (.tup xs)) (l : xs.length ≠ 2) : Two K H (.ref a) none
  | two {a : Addr} {x y : V} {ox oy : Option Int} (e : H a = some (.tup [x, y])) (hx : Item K H x ox) (hy : Item K H y oy) : Two K H (.ref a) (some (ox, oy))
def pairB : Option (Option Int × Option Int) → Bool
  | some (some _, some _) => true
  | _ => false
structure Txt (K : PySem.W.Frag) (mg : Str → Option Value) : Prop where
  isi : mg "isinstance" = none
  int : mg "int" = none
  bool : mg "bool" = none
  tuple : mg "tuple" = none
  len : mg "len" = none
  wide : ∃ t, mg "WIDE" = some (.int (10 ^ 100) t)
section
variable {P : Program} {w : World} {K : PySem.W.Frag} {mg : Str → Option Value} {base : Heap}
/-! ### is_whole -/
def spWhole (K : PySem.W.Frag) : Sp := fun vs H Q _ => ∃ x o, vs = [x] ∧ Item K H x o ∧ Q (.bl o.isSome) H
theorem scWhole : FnScope ["value"] ["value"] (defScope tWhole) := ⟨rfl, rfl, rfl, by decide +kernel, rfl, by decide +kernel, by decide +kernel⟩
theorem ok_whole {f : Addr} {fd : FuncData} (F : Fun K "is_whole" "is_whole" tWhole f fd) (T : Txt K mg) : FnOk P w K mg base CX0 1 f fd ["value"] (spWhole K) := by
  refine F.ok scWhole (fun vs H Q E h => ?_) (fun cdv A outer s H vs Q E hr h => ?_)
  · obtain ⟨x, o, rfl, _⟩ := h
    rfl
  · obtain ⟨x, o, rfl, it, k⟩ := h
    refine ⟨_, pss_one (ps_ret (pe_and (pe_callB call_isi (by rfl) T.isi (by decide +kernel) (pa_cons (pv 0) (pa_cons (pe_bltn (v := .ty "int") (by rfl) T.int (by decide +kernel) rfl) pa_nil)))
      (pe_one (pe_not (pe_callB call_isi (by rfl) T.isi (by decide +kernel) (pa_cons (pv 0) (pa_cons (pe_bltn (v := .ty "bool") (by rfl) T.bool (by decide +kernel) rfl) pa_nil))))))), ?_⟩
    cases it with
    | int i =>
      refine ⟨_, rfl, _, _, _, _, _, rfl, ClsV.ty _, .base (.int i), kit_ty (r := true) (by decide +kernel), _, rfl, iteT ?_⟩
      exact ⟨_, rfl, _, _, _, _, _, rfl, ClsV.ty _, .base (.int i), kit_ty (r := false) (by decide +kernel), _, rfl, k⟩
    | @other _ n t m =>
      simp only [List.mem_cons, List.not_mem_nil, or_false] at m
      rcases m with rfl | rfl | rfl | rfl | rfl | rfl
      case inr.inl =>
        refine ⟨_, rfl, _, _, _, _, _, rfl, ClsV.ty _, t, kit_ty (r := true) (by decide +kernel), _, rfl, iteT ?_⟩
        exact ⟨_, rfl, _, _, _, _, _, rfl, ClsV.ty _, t, kit_ty (r := true) (by decide +kernel), _, rfl, k⟩
      all_goals
        exact ⟨_, rfl, _, _, _, _, _, rfl, ClsV.ty _, t, kit_ty (r := false) (by decide +kernel), _, rfl, iteF k⟩
end
theorem Item.tuple_no {K : PySem.W.Frag} {H : Hp} {a : Addr} {xs : List V} {o : Option Int} (e : H a = some (.tup xs)) (it : Item K H (.ref a) o) : o = none := by
  cases it
  rfl
section
variable {P : Program} {w : World} {K : PySem.W.Frag} {mg : Str → Option Value} {base : Heap}
/-! ### is_pair: isinstance(value, tuple) and len(value) == 2 and is_whole(value[0]) and is_whole(value[1]) -/
def spPair (K : PySem.W.Frag) : Sp := fun vs H Q _ => ∃ x o, vs = [x] ∧ Two K H x o ∧ Q (.bl (pairB o)) H
theorem scPair : FnScope ["value"] ["value"] (defScope tPair) := ⟨rfl, rfl, rfl, by decide +kernel, rfl, by decide +kernel, by decide +kernel⟩
theorem ok_pair {f fW : Addr} {fd fdW : FuncData} (F : Fun K "is_pair" "is_pair" tPair f fd) (T : Txt K mg) (GW : FnOk P w K mg base CX0 1 fW fdW ["value"] (spWhole K)) (kW : PySem.W.keepIn K (.ref fW) = true) (bW : Binds K fdW ["value"] []) (gW : mg "is_whole" = some (.ref fW)) :
    FnOk P w K mg base CX0 2 f fd ["value"] (spPair K) := by
  refine F.ok scPair (fun vs H Q E h => ?_) (fun cdv A outer s H vs Q E hr h => ?_)
  · obtain ⟨x, o, rfl, _⟩ := h
    rfl
  · obtain ⟨x, o, rfl, it, k⟩ := h
    refine ⟨_, pss_one (ps_ret (pe_and (pe_callB call_isi (by rfl) T.isi (by decide +kernel) (pa_cons (pv 0) (pa_cons (pe_bltn (v := .ty "tuple") (by rfl) T.tuple (by decide +kernel) rfl) pa_nil)))
      (pe_and (pe_cmpR op_eq (pe_callB call_len_seq (by rfl) T.len PySem.boot_len (pa_cons (pv 0) pa_nil)) pe_int (nomark _))
      (pe_and (pe_call GW hr rfl gW kW bW .nil pass0 (pa_cons (pe_ix ix_tup (pv 0) pe_int (fun _ _ => rfl)) pa_nil))
      (pe_one (pe_call GW hr rfl gW kW bW .nil pass0 (pa_cons (pe_ix ix_tup (pv 0) pe_int (fun _ _ => rfl)) pa_nil))))))), ?_⟩
    cases it with
    | @no _ n t m =>
      simp only [List.mem_cons, List.not_mem_nil, or_false] at m
      rcases m with rfl | rfl | rfl | rfl | rfl | rfl
      all_goals
        exact ⟨_, rfl, _, _, _, _, _, rfl, ClsV.ty _, t, kit_ty (r := false) (by decide +kernel), _, rfl, iteF k⟩
    | @tup a xs e l =>
      refine ⟨_, rfl, _, _, _, _, _, rfl, ClsV.ty _, .base (.tup e), kit_ty (r := true) (by decide +kernel), _, rfl, iteT ?_⟩
      refine ⟨_, rfl, a, xs, rfl, .inr (SqT.of e), rfl, _, rfl, ?_⟩
      have ne : ¬ V.int (xs.length : Int) = V.int 2 := by
        intro z
        have z2 := V.int.inj z
        omega
      rw [decide_eq_false ne]
      exact iteF k
    | @two a x y ox oy e hx hy =>
      refine ⟨_, rfl, _, _, _, _, _, rfl, ClsV.ty _, .base (.tup e), kit_ty (r := true) (by decide +kernel), _, rfl, iteT ?_⟩
      refine ⟨_, rfl, a, [x, y], rfl, .inr (SqT.of e), rfl, _, rfl, iteT ?_⟩
      refine ⟨_, rfl, a, [x, y], 0, x, rfl, rfl, SqT.of e, atI_nat (j := 0) rfl, x, ox, rfl, hx, _, rfl, ?_⟩
      cases ox with
      | none => exact iteF k
      | some i =>
        refine iteT ⟨_, rfl, a, [x, y], 1, y, rfl, rfl, SqT.of e, atI_nat (j := 1) rfl, y, oy, rfl, hy, ?_⟩
        cases oy with
        | none => exact k
        | some j => exact k
end
/-! ### the dice: a list of three ints -/
def Dice (H : Hp) (p : Addr) : Prop := ∃ a b c : Int, H p = some (.lst [.int a, .int b, .int c]) ∧ 0 ≤ a ∧ 0 ≤ b ∧ b < 2147483629
/-- all but the dice at p is as it was -/
def But (p : Addr) (H H' : Hp) : Prop := ∀ q, q ≠ p → H' q = H q
structure Bl (mg : Str → Option Value) : Prop where
  int : mg "int" = none
  abs : mg "abs" = none
  max : mg "max" = none
  range : mg "range" = none
  list : mg "list" = none
  len : mg "len" = none
section
variable {P : Program} {w : World} {K : PySem.W.Frag} {mg : Str → Option Value} {base : Heap}
def spDice : Sp := fun vs H Q _ => ∃ n : Int, vs = [.int n] ∧ ∀ p H', H p = none → Dice H' p → But p H H' → Q (.ref p) H'
theorem scDice : FnScope ["_law_cell", "_law_number"] ["_law_cell"] (defScope tDice) := ⟨rfl, rfl, rfl, by decide +kernel, rfl, by decide +kernel, by decide +kernel⟩
theorem ok_dice {f : Addr} {fd : FuncData} (F : Fun K "_law_dice" "_law_dice" tDice f fd) (T : Bl mg) : FnOk P w K mg base CX0 1 f fd ["_law_cell"] spDice := by
  refine F.ok scDice (fun vs H Q E h => ?_) (fun cdv A outer s H vs Q E hr h => ?_)
  · obtain ⟨n, rfl, _⟩ := h
    rfl
  · obtain ⟨n, rfl, k⟩ := h
    refine ⟨_, pss_cons (ps_set (i := 1) scDice.nd rfl (.inl rfl) (pe_callTy call_int1 (by rfl) T.int (by decide +kernel) (pa_cons (pe_callB call_abs (by rfl) T.abs (by decide +kernel) (pa_cons (pv 0) pa_nil)) pa_nil)))
      (pss_one (ps_ret (pe_lst (pa_cons (pe_callB (call_max2 rfl) (by rfl) T.max (by decide +kernel) (pa_cons pe_int (pa_cons (pe_op op_sub (pv 1) (pe_op op_pow pe_int pe_int)) pa_nil)))
        (pa_cons (pe_op op_mod (pe_callTy call_int1 (by rfl) T.int (by decide +kernel) (pa_cons (pe_op op_add (pe_op op_mul (pv 1) pe_int) (pe_callTy call_int1 (by rfl) T.int (by decide +kernel) (pa_cons (pe_cmpR op_lt (pv 0) pe_int (nomark _)) pa_nil))) pa_nil)) pe_int)
        (pa_cons pe_int pa_nil)))))), ?_⟩
    refine ⟨_, rfl, _, rfl, .inl ⟨_, rfl, ?_⟩⟩
    refine ⟨_, rfl, _, _, rfl, rfl, ⟨by decide, by decide, by decide⟩, _, _, rfl, rfl, _, _, rfl, ?_⟩
    refine ⟨_, rfl, _, _, rfl, rfl, .inr ⟨by decide, by decide⟩, _, rfl, _, _, rfl, rfl, .inr ⟨_, rfl, _, _, rfl, rfl, .inl ⟨_, rfl, _, _, rfl, rfl, (by show (0 : Int) < 2147483629; decide), ?_⟩⟩⟩
    refine ⟨(by show 3 ≤ sizeLine; decide), fun p hp => k p _ hp ⟨_, _, _, upd_same, ?_, ?_, ?_⟩ fun q hq => upd_ne hq⟩
    · split <;> omega
    · exact Int.emod_nonneg _ (by decide)
    · exact Int.emod_lt_of_pos _ (by decide)
def spNext : Sp := fun vs H Q _ => ∃ (p : Addr) (m : Int), vs = [.ref p, .int m] ∧ 0 < m ∧ m < 1073741824 ∧ Dice H p ∧ ∀ r H', 0 ≤ r → r < m → Dice H' p → But p H H' → Q (.int r) H'
theorem scNext : FnScope ["_law_dice_here", "_law_many", "_law_found", "_law_mixed"] ["_law_dice_here", "_law_many"] (defScope tNextD) := ⟨rfl, rfl, rfl, by decide +kernel, rfl, by decide +kernel, by decide +kernel⟩
theorem ok_next {f : Addr} {fd : FuncData} (F : Fun K "_law_next" "_law_next" tNextD f fd) (T : Bl mg) : FnOk P w K mg base CX0 1 f fd ["_law_dice_here", "_law_many"] spNext := by
  refine F.ok scNext (fun vs H Q E h => ?_) (fun cdv A outer s H vs Q E hr h => ?_)
  · obtain ⟨p, m, rfl, _⟩ := h
    rfl
  · obtain ⟨p, m, rfl, m0, m1, ⟨a, b, c, e, a0, b0, b1⟩, k⟩ := h
    have m2 : m ≠ 0 := by omega
    refine ⟨_, pss_cons (ps_if (pt_cmpR op_gt (pe_ix ix_list (pv 0) pe_int (fun _ _ => rfl)) pe_int (nomark _))
        (pss_cons (ps_set (i := 2) scNext.nd rfl (.inl rfl) (pe_op op_modN (pe_callTy call_int1 (by rfl) T.int (by decide +kernel) (pa_cons (pe_ix ix_list (pv 0) pe_int (fun _ _ => rfl)) pa_nil)) (pv 1)))
        (pss_cons (ps_asg (pe_op op_fdivN (pe_ix ix_list (pv 0) pe_int (fun _ _ => rfl)) (pv 1)) (pg_sub (pv 0) pe_int set_list))
        (pss_one (ps_ret (pv 2))))) pss_nil)
      (pss_cons (ps_asg (pe_op op_add (pe_ix ix_list (pv 0) pe_int (fun _ _ => rfl)) pe_int) (pg_sub (pv 0) pe_int set_list))
      (pss_cons (ps_set (i := 3) scNext.nd rfl (.inl rfl) (pe_op op_mod (pe_callTy call_int1 (by rfl) T.int (by decide +kernel) (pa_cons (pe_op op_mul (pe_op op_add (pe_ix ix_list (pv 0) pe_int (fun _ _ => rfl)) pe_int) (pe_op op_add (pe_op op_mul (pe_ix ix_list (pv 0) pe_int (fun _ _ => rfl)) pe_int) pe_int)) pa_nil)) pe_int))
      (pss_cons (ps_set (i := 3) scNext.nd rfl (.inl rfl) (pe_op op_mod (pe_callTy call_int1 (by rfl) T.int (by decide +kernel) (pa_cons (pe_op op_add (pe_op op_mul (pv 3) (pv 3)) (pe_op op_mul (pe_ix ix_list (pv 0) pe_int (fun _ _ => rfl)) pe_int)) pa_nil)) pe_int))
      (pss_one (ps_ret (pe_op op_modN (pe_callTy call_int1 (by rfl) T.int (by decide +kernel) (pa_cons (pe_op op_fdiv (pv 3) pe_int) pa_nil)) (pv 1))))))), ?_⟩
    refine ⟨_, rfl, p, _, 0, _, rfl, rfl, SqL.of e, atI_nat (j := 0) rfl, _, _, rfl, rfl, _, rfl, ite2 (fun c0 => ?_) (fun c0 => ?_)⟩
    · refine ⟨_, rfl, p, _, 0, _, rfl, rfl, SqL.of e, atI_nat (j := 0) rfl, .inl ⟨_, rfl, _, rfl, _, _, rfl, rfl, m2, ?_⟩⟩
      refine ⟨_, rfl, p, _, 0, _, rfl, rfl, SqL.of e, atI_nat (j := 0) rfl, _, rfl, _, _, rfl, rfl, ⟨m2, by omega⟩, _, rfl, p, _, _, 0, rfl, rfl, e, rfl, ?_⟩
      refine ⟨_, rfl, k _ _ (Int.fmod_nonneg_of_pos _ m0) (Int.fmod_lt_of_pos _ m0) ⟨_, b, c, upd_same, Int.fdiv_nonneg a0 (by omega), b0, b1⟩ fun q hq => upd_ne hq⟩
    · refine ⟨_, rfl, p, _, 2, _, rfl, rfl, SqL.of e, atI_nat (j := 2) rfl, _, _, rfl, rfl, _, rfl, p, _, _, 2, rfl, rfl, e, rfl, ?_⟩
      have e2 : (upd H p (.lst [.int a, .int b, .int (c + 1)])) p = some (.lst [.int a, .int b, .int (c + 1)]) := upd_same
      refine ⟨_, rfl, p, _, 1, _, rfl, rfl, SqL.of e2, atI_nat (j := 1) rfl, _, _, rfl, rfl, ?_⟩
      refine ⟨_, rfl, p, _, 2, _, rfl, rfl, SqL.of e2, atI_nat (j := 2) rfl, _, _, rfl, rfl, .inr ⟨by decide, by decide⟩, _, _, rfl, rfl, _, _, rfl, rfl, .inl ⟨by omega, by omega⟩, .inl ⟨_, rfl, _, _, rfl, rfl, (by show (0 : Int) < 2147483587; decide), ?_⟩⟩
      have x0 : 0 ≤ ((b + 40503) * ((c + 1) * 69621 + 1013)) % 2147483587 := Int.emod_nonneg _ (by decide)
      have x1 : ((b + 40503) * ((c + 1) * 69621 + 1013)) % 2147483587 < 2147483587 := Int.emod_lt_of_pos _ (by decide)
      refine ⟨_, rfl, _, rfl, _, _, rfl, rfl, .inl ⟨by omega, by omega⟩, ?_⟩
      refine ⟨_, rfl, p, _, 2, _, rfl, rfl, SqL.of e2, atI_nat (j := 2) rfl, _, _, rfl, rfl, .inr ⟨by decide, by decide⟩, _, _, rfl, rfl, .inl ⟨_, rfl, _, _, rfl, rfl, (by show (0 : Int) < 2147483579; decide), ?_⟩⟩
      refine ⟨_, rfl, _, _, rfl, rfl, ⟨by decide, by decide⟩, .inl ⟨_, rfl, _, rfl, _, _, rfl, rfl, m2, ?_⟩⟩
      exact k _ _ (Int.fmod_nonneg_of_pos _ m0) (Int.fmod_lt_of_pos _ m0) ⟨a, b, _, e2, a0, b0, b1⟩ fun q hq => upd_ne hq
/-! ### draws -/
def spDraw : Sp := fun vs H Q _ => ∃ p : Addr, vs = [.ref p] ∧ Dice H p ∧ ∀ r H', -(10 ^ 18) < r → r < 10 ^ 18 → Dice H' p → But p H H' → Q (.int r) H'
theorem But.trans {p : Addr} {H H1 H2 : Hp} (a : But p H H1) (b : But p H1 H2) : But p H H2 := fun q hq => (b q hq).trans (a q hq)
theorem scGreat : FnScope ["_law_dice_here", "_law_number", "_law_turn"] ["_law_dice_here"] (defScope tGreat) := ⟨rfl, rfl, rfl, by decide +kernel, rfl, by decide +kernel, by decide +kernel⟩
theorem ok_great {f fX : Addr} {fd fdX : FuncData} (F : Fun K "_law_great" "_law_great" tGreat f fd) (T : Bl mg) (GX : FnOk P w K mg base CX0 1 fX fdX ["_law_dice_here", "_law_many"] spNext) (kX : PySem.W.keepIn K (.ref fX) = true) (bX : Binds K fdX ["_law_dice_here", "_law_many"] []) (gX : mg "_law_next" = some (.ref fX)) :
    FnOk P w K mg base CX0 2 f fd ["_law_dice_here"] spDraw := by
  refine F.ok scGreat (fun vs H Q E h => ?_) (fun cdv A outer s H vs Q E hr h => ?_)
  · obtain ⟨p, rfl, _⟩ := h
    rfl
  · obtain ⟨p, rfl, d, k⟩ := h
    refine ⟨_, pss_cons (ps_set (i := 1) scGreat.nd rfl (.inl rfl) pe_int)
      (pss_cons (ps_for PassesOwn.never rfl (pi_range1 rfl T.range (pa_cons pe_int pa_nil)) (pg_name (i := 2) scGreat.nd rfl (.inl rfl))
        (pss_one (ps_set (i := 1) scGreat.nd rfl (.inl rfl) (pe_op op_add (pe_op op_mul (pv 1) (pe_op op_pow pe_int pe_int)) (pe_call GX hr rfl gX kX bX .nil pass0 (pa_cons (pv 0) (pa_cons (pe_op op_pow pe_int pe_int) pa_nil)))))))
      (pss_one (ps_ret (pe_ifExp (pt_cmpR op_eq (pe_call GX hr rfl gX kX bX .nil pass0 (pa_cons (pv 0) (pa_cons pe_int pa_nil))) pe_int (nomark _)) (pe_un un_neg (pv 1)) (pv 1))))), ?_⟩
    refine ⟨3, rfl, by decide, by decide, for_range (n := 3) (fun i σ H' => ∃ (n : Int) (v : Option V), σ = [some (.ref p), some (.int n), v] ∧ 0 ≤ n ∧ n < (10 ^ 6) ^ i ∧ Dice H' p ∧ But p H H')
      ⟨0, none, rfl, by decide, by decide, d, fun _ _ => rfl⟩ ?_ ?_⟩
    · rintro i σ H1 hi ⟨n, v, rfl, n0, n1, d1, u1⟩
      refine ⟨_, rfl, _, _, rfl, rfl, ⟨by decide, by decide, by decide⟩, _, _, rfl, rfl, .inr ⟨by decide, by decide⟩, _, rfl, _, _, rfl, rfl, ⟨by decide, by decide, by decide⟩, p, 10 ^ 6, rfl, by decide, by decide, d1, fun r H2 r0 r1 d2 u2 => ?_⟩
      refine ⟨_, _, rfl, rfl, ?_⟩
      refine ⟨_, _, rfl, ?_, ?_, d2, u1.trans u2⟩
      · have : 0 ≤ n * 10 ^ 6 := Int.mul_nonneg n0 (by decide)
        have e : ((10 : Int) ^ (6 : Int).toNat) = 10 ^ 6 := rfl
        rw [e]
        omega
      · have e : ((10 : Int) ^ (6 : Int).toNat) = 10 ^ 6 := rfl
        have e4 : ((10 : Int) ^ 6) ^ (i + 1) = (10 ^ 6) ^ i * 10 ^ 6 := Int.pow_succ _ _
        rw [e, e4]
        have n2 : n + 1 ≤ (10 ^ 6) ^ i := n1
        have n3 : (n + 1) * 10 ^ 6 ≤ (10 ^ 6) ^ i * 10 ^ 6 := Int.mul_le_mul_of_nonneg_right n2 (by decide)
        rw [Int.add_mul, Int.one_mul] at n3
        omega
    · rintro σ H1 ⟨n, v, rfl, n0, n1, d1, u1⟩
      have e3 : ((10 : Int) ^ 6) ^ 3 = 10 ^ 18 := by decide
      rw [e3] at n1
      refine ⟨_, rfl, p, 2, rfl, by decide, by decide, d1, fun r H2 r0 r1 d2 u2 => ?_⟩
      refine ⟨rfl, _, rfl, ite2 (fun _ => ?_) (fun _ => ?_)⟩
      · exact ⟨_, rfl, _, rfl, k _ _ (by omega) (by omega) d2 (u1.trans u2)⟩
      · exact ⟨_, rfl, k _ _ (by omega) (by omega) d2 (u1.trans u2)⟩
theorem scWholeD : FnScope ["_law_dice_here", "_law_way"] ["_law_dice_here"] (defScope tWholeD) := ⟨rfl, rfl, rfl, by decide +kernel, rfl, by decide +kernel, by decide +kernel⟩
theorem ok_wholeD {f fX fG : Addr} {fd fdX fdG : FuncData} (F : Fun K "_law_whole" "_law_whole" tWholeD f fd) (GX : FnOk P w K mg base CX0 1 fX fdX ["_law_dice_here", "_law_many"] spNext) (kX : PySem.W.keepIn K (.ref fX) = true) (bX : Binds K fdX ["_law_dice_here", "_law_many"] []) (gX : mg "_law_next" = some (.ref fX))
    (GG : FnOk P w K mg base CX0 2 fG fdG ["_law_dice_here"] spDraw) (kG : PySem.W.keepIn K (.ref fG) = true) (bG : Binds K fdG ["_law_dice_here"] []) (gG : mg "_law_great" = some (.ref fG)) :
    FnOk P w K mg base CX0 3 f fd ["_law_dice_here"] spDraw := by
  refine F.ok scWholeD (fun vs H Q E h => ?_) (fun cdv A outer s H vs Q E hr h => ?_)
  · obtain ⟨p, rfl, _⟩ := h
    rfl
  · obtain ⟨p, rfl, d, k⟩ := h
    have hr1 : Room 1 _ := hr.mono (by decide)
    refine ⟨_, pss_cons (ps_set (i := 1) scWholeD.nd rfl (.inl rfl) (pe_call GX hr1 rfl gX kX bX .nil pass0 (pa_cons (pv 0) (pa_cons pe_int pa_nil))))
      (pss_cons (ps_if (pt_cmpR op_lt (pv 1) pe_int (nomark _)) (pss_one (ps_ret (pe_op op_sub (pe_call GX hr1 rfl gX kX bX .nil pass0 (pa_cons (pv 0) (pa_cons pe_int pa_nil))) pe_int))) pss_nil)
      (pss_one (ps_ret (pe_ifExp (pt_cmpR op_eq (pv 1) pe_int (nomark _)) (pe_op op_sub (pe_call GX hr1 rfl gX kX bX .nil pass0 (pa_cons (pv 0) (pa_cons pe_int pa_nil))) pe_int) (pe_call GG hr rfl gG kG bG .nil pass0 (pa_cons (pv 0) pa_nil)))))), ?_⟩
    refine ⟨_, rfl, p, 4, rfl, by decide, by decide, d, fun r H1 r0 r1 d1 u1 => ?_⟩
    refine ⟨_, rfl, _, _, rfl, rfl, _, rfl, ite2 (fun _ => ?_) (fun _ => ?_)⟩
    · refine ⟨_, rfl, p, 13, rfl, by decide, by decide, d1, fun r2 H2 r3 r4 d2 u2 => ?_⟩
      exact ⟨_, _, rfl, rfl, k _ _ (by omega) (by omega) d2 (u1.trans u2)⟩
    · refine ⟨_, rfl, rfl, _, rfl, ite2 (fun _ => ?_) (fun _ => ?_)⟩
      · refine ⟨_, rfl, p, 2001, rfl, by decide, by decide, d1, fun r2 H2 r3 r4 d2 u2 => ?_⟩
        exact ⟨_, _, rfl, rfl, k _ _ (by omega) (by omega) d2 (u1.trans u2)⟩
      · exact ⟨_, rfl, p, rfl, d1, fun r2 H2 r3 r4 d2 u2 => k _ _ r3 r4 d2 (u1.trans u2)⟩
end
end K14
/-! == and != of a text with data of any kind; of lists with the empty one; great powers -/
namespace PySem.SeqAt
open MeetsSeq
open AutoSeq1 (wpAny_loadPart')
theorem dict_eq_no_str (l : Addr) (es : Array DictEntry) (n : Nat) (dd : Option Addr) (sl : Array (Option Value)) (b : Str) (u : Tok) :
    Meets (Builtin.«dict.__eq__» ⟨[.ref l, .str b u], []⟩) (fun _ R s => s.heap.get? l = some { cls := .type "dict", dict := dd, data := .dict es n, slots := sl } ∧ R (.ok (.ret .notImplemented)) s) :=
  .of_wp fun prog w A R s h => by
    obtain ⟨hp, g, d, tk, os⟩ := s
    obtain ⟨hl, h⟩ := h
    have f1 := F.sub_str_dict
    wp_walk using wpAny_loadPart' hl
    exact ⟨_, rfl, h⟩
theorem dict_ne_no_str (l : Addr) (es : Array DictEntry) (n : Nat) (dd : Option Addr) (sl : Array (Option Value)) (b : Str) (u : Tok) :
    Meets (Builtin.«dict.__ne__» ⟨[.ref l, .str b u], []⟩) (fun _ R s => s.heap.get? l = some { cls := .type "dict", dict := dd, data := .dict es n, slots := sl } ∧ R (.ok (.ret .notImplemented)) s) :=
  .of_wp fun prog w A R s h => by
    obtain ⟨hp, g, d, tk, os⟩ := s
    obtain ⟨hl, h⟩ := h
    have f1 := F.sub_str_dict
    wp_walk using wpAny_loadPart' hl
    exact ⟨_, rfl, h⟩
theorem str_eq_no_dict (b : Str) (u : Tok) (l : Addr) (es : Array DictEntry) (n : Nat) (dd : Option Addr) (sl : Array (Option Value)) :
    Meets (Builtin.«str.__eq__» ⟨[.str b u, .ref l], []⟩) (fun _ R s => s.heap.get? l = some { cls := .type "dict", dict := dd, data := .dict es n, slots := sl } ∧ R (.ok (.ret .notImplemented)) s) :=
  .of_wp fun prog w A R s h => by
    obtain ⟨hp, g, d, tk, os⟩ := s
    obtain ⟨hl, h⟩ := h
    wp_walk using wpAny_loadPart' hl, wpAny_load hl
    exact ⟨_, rfl, h⟩
theorem str_ne_no_dict (b : Str) (u : Tok) (l : Addr) (es : Array DictEntry) (n : Nat) (dd : Option Addr) (sl : Array (Option Value)) :
    Meets (Builtin.«str.__ne__» ⟨[.str b u, .ref l], []⟩) (fun _ R s => s.heap.get? l = some { cls := .type "dict", dict := dd, data := .dict es n, slots := sl } ∧ R (.ok (.ret .notImplemented)) s) :=
  .of_wp fun prog w A R s h => by
    obtain ⟨hp, g, d, tk, os⟩ := s
    obtain ⟨hl, h⟩ := h
    wp_walk using wpAny_loadPart' hl, wpAny_load hl
    exact ⟨_, rfl, h⟩
section
variable {A : Around} {s : Shared}
theorem RcAt.dict_str {l : Addr} {es : Array DictEntry} {n : Nat} {dd : Option Addr} {sl : Array (Option Value)} (b : Str) (u : Tok) (ho : s.heap.get? l = some { cls := .type "dict", dict := dd, data := .dict es n, slots := sl }) (hu : A.units < cLine) : RcAt A s (.ref l) (.str b u) false :=
  fun prog w E Q h => rc_eq_decline_or (k := false) ⟨_, ho, rfl⟩ (typeIs_str s b u) (by decide) F.sub_str_dict F.slot_dict_eq F.slot_str_eq_refl
    (fun _ hq => call_meets F.slot_dict_eq ⟨_, ho, rfl⟩ F.entry_dict_eq (F.args_dict_eq_2 _ _) (dict_eq_no_str l es n dd sl b u) ⟨ho, hq⟩)
    (fun _ hq => call_meets F.slot_str_eq_refl (typeIs_str s b u) F.entry_str_eq (F.args_str_eq_2 _ _) (str_eq_no_dict b u l es n dd sl) ⟨ho, hq⟩)
    (fun _ hq => wpAny_of_eq (rfl : isSame (.ref l) (.str b u) = pure false) hq) (.inr hu) h
theorem RcNeAt.dict_str {l : Addr} {es : Array DictEntry} {n : Nat} {dd : Option Addr} {sl : Array (Option Value)} (b : Str) (u : Tok) (ho : s.heap.get? l = some { cls := .type "dict", dict := dd, data := .dict es n, slots := sl }) (hu : A.units < cLine) : RcNeAt A s (.ref l) (.str b u) true :=
  fun prog w E Q h => rc_ne_decline_or (k := false) ⟨_, ho, rfl⟩ (typeIs_str s b u) (by decide) F.sub_str_dict F.slot_dict_ne F.slot_str_ne_refl
    (fun _ hq => call_meets F.slot_dict_ne ⟨_, ho, rfl⟩ F.entry_dict_ne (F.args_dict_ne_2 _ _) (dict_ne_no_str l es n dd sl b u) ⟨ho, hq⟩)
    (fun _ hq => call_meets F.slot_str_ne_refl (typeIs_str s b u) F.entry_str_ne (F.args_str_ne_2 _ _) (str_ne_no_dict b u l es n dd sl) ⟨ho, hq⟩)
    (fun _ hq => wpAny_of_eq (rfl : isSame (.ref l) (.str b u) = pure false) hq) (.inr hu) h
end
end PySem.SeqAt
namespace L2.My
open PySem PySem.Spec PyProof.Rows
/-- a value as a text sees it: the text that it is, or none -/
inductive AsText (H : Hp) : V → Option Str → Prop
  | str (z : Str) : AsText H (.str z) (some z)
  | non : AsText H .non none
  | bl (b : Bool) : AsText H (.bl b) none
  | int (i : Int) : AsText H (.int i) none
  | lst {a : Addr} {xs : List V} (e : H a = some (.lst xs)) : AsText H (.ref a) none
  | tup {a : Addr} {xs : List V} (e : H a = some (.tup xs)) : AsText H (.ref a) none
  | dic {a : Addr} {kvs : List (Key × V)} (e : H a = some (.dK kvs)) : AsText H (.ref a) none
section
variable {X : Cx} {pins : List (Addr × Obj)} {σ : L2.St} {H : Hp} {s : Shared}
theorem dict_get (I : Inv X pins σ H s) {a : Addr} {kvs : List (Key × V)} (e : H a = some (.dK kvs)) : ∃ dd es n sl, s.heap.get? a = some { cls := .type "dict", dict := dd, data := .dict es n, slots := sl } := by
  obtain ⟨_, _, vs, _, o, es, ep, h1, h2, h3, _⟩ := (show ObjOk X.prog X.w H s.heap a (.dK kvs) from I.hok a _ e)
  obtain ⟨oc, od, dt, sl⟩ := o
  obtain ⟨c1, _⟩ := h2
  simp only at c1 h3
  subst c1 h3
  exact ⟨od, es, ep, sl, h1⟩
def rEqX : R2 := fun x y H Q => ∃ k z, y = .str z ∧ AsText H x k ∧ Q (.bl (decide (k = some z))) H
def rNeX : R2 := fun x y H Q => ∃ k z, y = .str z ∧ AsText H x k ∧ Q (.bl (!decide (k = some z))) H
theorem some_eq (a b : Str) : decide ((some a : Option Str) = some b) = (a == b) := by
  by_cases e : a = b
  · subst e
    simp
  · simp [e]
theorem op_eqX (hu : X.A.units < cLine) : OpR X (compareOp .Eq) rEqX := by
  intro pins s σ H x y v u Q I rx ry h
  obtain ⟨k, z, rfl, tx, q⟩ := h
  obtain ⟨t, rfl⟩ := ry
  have done : ∀ b : Bool, decide (k = some z) = b → EP X pins σ Q (.bool b) s := fun b e => ⟨.bl b, H, I, rfl, e ▸ q⟩
  cases tx with
  | str z' =>
    obtain ⟨t', rfl⟩ := rx
    exact SeqAt.RcAt.str_str z' t' z t _ _ _ _ (done _ (some_eq z' z))
  | non =>
    cases rx
    exact SeqAt.RcAt.none_str z t _ _ _ _ (done _ (by simp))
  | bl b =>
    cases rx
    exact SeqAt.RcAt.bool_str b z t _ _ _ _ (done _ (by simp))
  | int i =>
    obtain ⟨t', rfl⟩ := rx
    exact SeqAt.RcAt.int_str i t' z t _ _ _ _ (done _ (by simp))
  | @lst a xs e =>
    cases rx
    obtain ⟨_, its, n, _, h1⟩ := (show ObjOk X.prog X.w H s.heap a (.lst xs) from I.hok a _ e)
    exact SeqAt.RcAt.list_str z t ⟨_, h1, rfl, n, rfl⟩ hu _ _ _ _ (done _ (by simp))
  | @tup a xs e =>
    cases rx
    obtain ⟨_, its, _, o, h1, h2, n, h3⟩ := (show ObjOk X.prog X.w H s.heap a (.tup xs) from I.hok a _ e)
    exact SeqAt.RcAt.tuple_str z t ⟨_, h1, h2, n, h3⟩ hu _ _ _ _ (done _ (by simp))
  | @dic a kvs e =>
    cases rx
    obtain ⟨dd, es, n, sl, h1⟩ := dict_get I e
    exact SeqAt.RcAt.dict_str z t h1 hu _ _ _ _ (done _ (by simp))
theorem op_neX (hu : X.A.units < cLine) : OpR X (compareOp .NotEq) rNeX := by
  intro pins s σ H x y v u Q I rx ry h
  obtain ⟨k, z, rfl, tx, q⟩ := h
  obtain ⟨t, rfl⟩ := ry
  have done : ∀ b : Bool, (!decide (k = some z)) = b → EP X pins σ Q (.bool b) s := fun b e => ⟨.bl b, H, I, rfl, e ▸ q⟩
  cases tx with
  | str z' =>
    obtain ⟨t', rfl⟩ := rx
    exact SeqAt.RcNeAt.str_str z' t' z t _ _ _ _ (done _ (by rw [some_eq z' z]))
  | non =>
    cases rx
    exact SeqAt.RcNeAt.none_str z t _ _ _ _ (done _ (by simp))
  | bl b =>
    cases rx
    exact SeqAt.RcNeAt.bool_str b z t _ _ _ _ (done _ (by simp))
  | int i =>
    obtain ⟨t', rfl⟩ := rx
    exact SeqAt.RcNeAt.int_str i t' z t _ _ _ _ (done _ (by simp))
  | @lst a xs e =>
    cases rx
    obtain ⟨_, its, n, _, h1⟩ := (show ObjOk X.prog X.w H s.heap a (.lst xs) from I.hok a _ e)
    exact SeqAt.RcNeAt.list_str z t ⟨_, h1, rfl, n, rfl⟩ hu _ _ _ _ (done _ (by simp))
  | @tup a xs e =>
    cases rx
    obtain ⟨_, its, _, o, h1, h2, n, h3⟩ := (show ObjOk X.prog X.w H s.heap a (.tup xs) from I.hok a _ e)
    exact SeqAt.RcNeAt.tuple_str z t ⟨_, h1, h2, n, h3⟩ hu _ _ _ _ (done _ (by simp))
  | @dic a kvs e =>
    cases rx
    obtain ⟨dd, es, n, sl, h1⟩ := dict_get I e
    exact SeqAt.RcNeAt.dict_str z t h1 hu _ _ _ _ (done _ (by simp))
/-- xs == [] -/
def rEqNil : R2 := fun x y H Q => ∃ a b xs, x = .ref a ∧ y = .ref b ∧ H a = some (.lst xs) ∧ H b = some (.lst []) ∧ Q (.bl xs.isEmpty) H
theorem op_eqNil (hu : X.A.units < cLine) : OpR X (compareOp .Eq) rEqNil := by
  intro pins s σ H x y v u Q I rx ry h
  obtain ⟨a, b, xs, rfl, rfl, ea, eb, q⟩ := h
  cases rx
  cases ry
  obtain ⟨_, its, n, r1, h1⟩ := (show ObjOk X.prog X.w H s.heap a (.lst xs) from I.hok a _ ea)
  obtain ⟨_, its2, n2, r2, h2⟩ := (show ObjOk X.prog X.w H s.heap b (.lst []) from I.hok b _ eb)
  cases r2
  have la : s.heap.IsList a its.toArray := ⟨_, h1, rfl, n, rfl⟩
  have lb : s.heap.IsList b #[] := ⟨_, h2, rfl, n2, rfl⟩
  cases r1 with
  | nil => exact SeqAt.RcAt.lists (e := fun _ => true) la lb rfl hu (fun j h1 _ => absurd h1 (by simp)) _ _ _ _ ⟨.bl true, H, I, rfl, q⟩
  | cons r t => exact SeqAt.RcAt.lists_lengths la lb (by simp) hu _ _ _ _ ⟨.bl false, H, I, rfl, q⟩
/-- t != () -/
def rNeUnit : R2 := fun x y H Q => ∃ a b xs, x = .ref a ∧ y = .ref b ∧ H a = some (.tup xs) ∧ H b = some (.tup []) ∧ Q (.bl (!xs.isEmpty)) H
theorem op_neUnit (hu : X.A.units < cLine) : OpR X (compareOp .NotEq) rNeUnit := by
  intro pins s σ H x y v u Q I rx ry h
  obtain ⟨a, b, xs, rfl, rfl, ea, eb, q⟩ := h
  cases rx
  cases ry
  obtain ⟨_, its, r1, o, h1, h2, n, h3⟩ := (show ObjOk X.prog X.w H s.heap a (.tup xs) from I.hok a _ ea)
  obtain ⟨_, its2, r2, o2, g1, g2, n2, g3⟩ := (show ObjOk X.prog X.w H s.heap b (.tup []) from I.hok b _ eb)
  cases r2
  have la : s.heap.IsTuple a its.toArray := ⟨_, h1, h2, n, h3⟩
  have lb : s.heap.IsTuple b #[] := ⟨_, g1, g2, n2, g3⟩
  refine SeqAt.RcNeAt.tuples (e := fun _ => true) la lb hu (fun j _ h2 => absurd h2 (by simp)) _ _ _ _ ?_
  cases r1 with
  | nil => exact ⟨.bl false, H, I, rfl, q⟩
  | cons r t => exact ⟨.bl true, H, I, by simp [RelV], q⟩
/-- a great power -/
def CPowW (i j : Int) : Prop := 0 ≤ j ∧ (Builtin.Int.intBits i : Int) * j ≤ 2 ^ 27
theorem op_powW : OpR X (binaryOp .Pow) (rI CPowW fun i j => .int (i ^ j.toNat)) := opI fun _ _ _ _ _ _ _ hc q => pow_int hc.1 hc.2 q
end
end L2.My
/-! a tuple of any data compared with a tuple of one text -/
namespace L2.My
open PySem PySem.Spec PyProof.Rows
section
variable {A : Around} {s : Shared}
/-- what == tells of a text, where the two are not the same object -/
theorem eqAt_of {x : Value} {z : Str} {t : Tok} {k : Bool} (ne : x ≠ .str z t) (h : SeqAt.RcAt A s x (.str z t) k) : SeqAt.EqAt A s x (.str z t) k := fun prog w E Q q => by
  unfold eqBool
  refine wpAny_holding (wpAny_ite_split (fun c => absurd (eq_of_beq c) ne) fun _ => ?_)
  cases x <;> exact wpAny_bind (h prog w E _ (wpAny_truthy_bool q))
end
section
variable {X : Cx} {pins : List (Addr × Obj)} {σ : L2.St} {H : Hp} {s : Shared}
/-- one item against a text -/
theorem item_text (I : Inv X pins σ H s) {v : V} {u : Value} {k : Option Str} (r : RelV v u) (t : AsText H v k) (z : Str) (tk : Tok) {A : Around} (hu : A.units < cLine) : SeqAt.EqAt A s u (.str z tk) (decide (k = some z)) := by
  cases t with
  | str z' =>
    obtain ⟨t', rfl⟩ := r
    rw [some_eq]
    exact SeqAt.EqAt.str_str z' t' z tk
  | non =>
    cases r
    exact eqAt_of (by intro e; cases e) (SeqAt.RcAt.none_str z tk)
  | bl b =>
    cases r
    exact eqAt_of (by intro e; cases e) (SeqAt.RcAt.bool_str b z tk)
  | int i =>
    obtain ⟨t', rfl⟩ := r
    exact eqAt_of (by intro e; cases e) (SeqAt.RcAt.int_str i t' z tk)
  | @lst a xs e =>
    cases r
    obtain ⟨_, its, n, _, h1⟩ := (show ObjOk X.prog X.w H s.heap a (.lst xs) from I.hok a _ e)
    exact eqAt_of (by intro e; cases e) (SeqAt.RcAt.list_str z tk ⟨_, h1, rfl, n, rfl⟩ hu)
  | @tup a xs e =>
    cases r
    obtain ⟨_, its, _, o, h1, h2, n, h3⟩ := (show ObjOk X.prog X.w H s.heap a (.tup xs) from I.hok a _ e)
    exact eqAt_of (by intro e; cases e) (SeqAt.RcAt.tuple_str z tk ⟨_, h1, h2, n, h3⟩ hu)
  | @dic a kvs e =>
    cases r
    obtain ⟨dd, es, n, sl, h1⟩ := dict_get I e
    exact eqAt_of (by intro e; cases e) (SeqAt.RcAt.dict_str z tk h1 hu)
/-- the tuple is (z,) -/
def isTag : List (Option Str) → Str → Bool
  | [k], z => decide (k = some z)
  | _, _ => false
/-- items as a text sees them -/
inductive Texts (H : Hp) : List V → List (Option Str) → Prop
  | nil : Texts H [] []
  | cons {v : V} {k : Option Str} {vs : List V} {ks : List (Option Str)} (t : AsText H v k) (r : Texts H vs ks) : Texts H (v :: vs) (k :: ks)
def rEqTag : R2 := fun x y H Q => ∃ a b xs ks z, x = .ref a ∧ y = .ref b ∧ H a = some (.tup xs) ∧ H b = some (.tup [.str z]) ∧ Texts H xs ks ∧ Q (.bl (isTag ks z)) H
theorem op_eqTag (hu : X.A.units + 1 < cLine) : OpR X (compareOp .Eq) rEqTag := by
  intro pins s σ H x y v u Q I rx ry h
  obtain ⟨a, b, xs, ks, z, rfl, rfl, ea, eb, tx, q⟩ := h
  cases rx
  cases ry
  obtain ⟨_, its, r1, o, h1, h2, n, h3⟩ := (show ObjOk X.prog X.w H s.heap a (.tup xs) from I.hok a _ ea)
  obtain ⟨_, its2, r2, o2, g1, g2, n2, g3⟩ := (show ObjOk X.prog X.w H s.heap b (.tup [.str z]) from I.hok b _ eb)
  have la : s.heap.IsTuple a its.toArray := ⟨_, h1, h2, n, h3⟩
  cases r2 with
  | @cons _ w _ ws rz rn =>
    cases rn
    obtain ⟨tk, rfl⟩ := rz
    have lb : s.heap.IsTuple b #[.str z tk] := ⟨_, g1, g2, n2, g3⟩
    refine SeqAt.RcAt.tuples (e := fun _ => isTag [ks.headD none] z) la lb (Nat.lt_of_succ_lt hu) (fun j j1 j2 => ?_) _ _ _ _ ?_
    · have j0 : j = 0 := by
        have : j < 1 := j2
        omega
      subst j0
      cases r1 with
      | nil => exact absurd j1 (by simp)
      | @cons v w vs ws r t =>
        cases tx with
        | cons t0 tr => exact item_text I r t0 z tk hu
    · cases r1 with
      | nil =>
        cases tx
        exact ⟨.bl false, H, I, rfl, q⟩
      | @cons v w vs ws r t =>
        cases tx with
        | @cons _ k _ kr t0 tr =>
          cases t with
          | nil =>
            cases tr
            exact ⟨.bl _, H, I, by simp [RelV, List.range_succ], q⟩
          | cons r' t' =>
            cases tr
            exact ⟨.bl false, H, I, by simp [RelV], q⟩
end
end L2.My
/-! defs that are told that no repr is under way around them; repr of data; the end of a law for them -/
namespace L2.My
open PySem PySem.Spec PyProof.Rows
/-- as FnOk, where the guards around are none -/
structure FnG (P : Program) (w : World) (K : PySem.W.Frag) (mg : Str → Option Value) (base : Heap) (k : Nat) (f : Addr) (fd : FuncData) (ps : List Str) (sp : Sp) : Prop where
  len : ∀ vs H Q E, sp vs H Q E → vs.length = ps.length
  run : ∀ (A : Around) (outer : List Env) (s : Shared) (H : Hp) (args : Args) (us : List Value) (vs : List V) (Q : VK) (E : XK), Room k A → A.guards = some [] → Env0 P w K mg base A outer s H →
    BindsTo s fd args (ps.zip us) → Vals vs us → sp vs H Q E → codeAny (model P w) A (.call (.ref f) args) (CR CX0 outer P w H s Q E) s
theorem guards_deeper {A : Around} {env : Env} (h : A.guards = some []) : (A.deeper env).guards = some [] := h
section
variable {P : Program} {w : World} {K : PySem.W.Frag} {mg : Str → Option Value} {base : Heap}
theorem Fun.okG {x qual : Str} {st : Stmt} {f : Addr} {fd : FuncData} {N ps : List Str} {k : Nat} {sp : Sp} (F : Fun K x qual st f fd) (S : FnScope N ps (defScope st)) (len : ∀ vs H Q E, sp vs H Q E → vs.length = ps.length)
    (hbody : ∀ (cdv : Value) (A : Around) (outer : List Env) (s : Shared) (H : Hp) (vs : List V) (Q : VK) (E : XK), PySem.W.codeIn K cdv qual = true → Room k (A.deeper (envOfC qual (defScope st) s.heap.objs.size f cdv)) → A.guards = some [] → sp vs H Q E →
      ∃ t, PSs (cxOf CX0 P w K mg base N qual (defScope st) f cdv A outer s H E).nox (defBody st) t ∧ t { nx := fun _ H' => Q .non H', rt := Q } (start N vs) H) : FnG P w K mg base (k + 1) f fd ps sp := by
  obtain ⟨oc, od, kV, doc, pm, an, cdv, ct, osl, rfl, lk, hcd⟩ := F.ex
  refine ⟨len, fun A outer s H args us vs Q E hr hg e0 hb r h => ?_⟩
  refine LamX.run_ofS lk hcd S hr e0 hb r (len _ _ _ _ h) fun hr' => ?_
  obtain ⟨t, ht, q⟩ := hbody cdv A outer s H vs Q E hcd hr' hg h
  exact ⟨t, ht.nox, q⟩
end
section
variable {X : Cx}
/-- f(e, ..), f such a def -/
theorem pe_callG {k : Nat} {f : Addr} {fd : FuncData} {ps : List Str} {sp : Sp} {x : Str} {p pos : Pos} {e : Expr} {es : List Expr} {t : TA} (F : FnG X.prog X.w X.K X.mg X.base k f fd ps sp) (hr : Room k X.A) (gd : X.A.guards = some []) (hg : Gl X x) (hm : X.mg x = some (.ref f))
    (hk : PySem.W.keepIn X.K (.ref f) = true) (hb : Binds X.K fd ps []) (ha : PA X (e :: es) t) (hdb : (x == ("__debug__" : Str)) = false := by decide)
    (he : starEach (e :: es) X.env = (false, eval e X.env) :: starEach es X.env := by rfl) (hpl : (backTo pos (starEach es X.env)).any (·.1) = false := by rfl) :
    PE X (.Call (.Name x p) (e :: es) [] pos) (tCall sp [] E0 t) := by
  refine ⟨fun pins s σ H Q I h => wpAny_Call_Name_kw (ld_glob I hg hm (PySem.W.callWith_K (h₀ := X.base) I.ok.mod.kin hk (thn (ha.run pos pins s σ H _ I h) fun us s1 hh => ?_) he hpl) hdb)⟩
  obtain ⟨vs, H1, I1, r, q⟩ := hh
  rw [List.append_nil] at q
  have hl : us.length = ps.length := by rw [← r.length]; exact F.len _ _ _ _ q
  have hb2 := hb s1 us I1.kIn (by rw [List.append_nil]; exact hl)
  rw [List.append_nil] at hb2
  refine ⟨I1.kIn, wpAny_call (codeAny_mono (F.run X.A X.stack s1 H1 ⟨us, []⟩ us vs Q E0 hr gd I1.env0 hb2 r q) fun r2 s2 hq => ?_)⟩
  match r2, hq with
  | .error e, hq => exact (show False from hq).elim
  | .ok (.ret u), hq => exact I1.after hq
  | .ok .next, hq => exact False.elim hq
  | .ok .brk, hq => exact False.elim hq
  | .ok .cont, hq => exact False.elim hq
/-- repr(v) of data without dicts -/
def rRepr (K : PySem.W.Frag) : List V → Hp → VK → Prop := fun xs H Q => ∃ v d, xs = [v] ∧ Dp K H v d ∧ d.showable = true ∧ d.hasDict = false ∧ d.depth ≤ 64 ∧ d.shown.length ≤ sizeLine ∧ Q (.str d.shown) H
theorem call_repr (gd : X.A.guards = some []) (hu : X.A.units + 70 < cLine) : CallR X (.builtin "repr") (rRepr X.K) := by
  intro pins s σ H xs us Q I r h
  obtain ⟨v, d, rfl, dp, sh, nd, dd, sz, q⟩ := h
  obtain ⟨u, rfl, ru⟩ : ∃ u, us = [u] ∧ RelV v u := by
    cases r with
    | cons ra rn =>
      cases rn
      exact ⟨_, rfl, ra⟩
  have done : ∀ t tk, EP X pins σ Q (.str d.shown t) { s with toks := tk } := fun t tk => ⟨.str d.shown, H, I.tok tk, ⟨t, rfl⟩, q⟩
  obtain ⟨as, rd⟩ := Dp.reads I d v u dp ru
  cases rd with
  | none => exact PySem.P.repr_of_none (done _ _)
  | bool b => exact PySem.P.repr_of_bool (done _ _)
  | int i t => exact PySem.P.repr_of_int (by simpa [PyData.showable] using sh) (done _ _)
  | str x t => exact PySem.P.repr_of_str (done _ _) sz
  | list e1 e2 e3 ra =>
    refine repr_of_reads' (.list e1 e2 e3 ra) sh (PyData.noDict_hsm nd) gd (by omega) (fun _ _ e => e) (fun h' t tk hk => ?_) sz
    exact ⟨.str _, H, I.kept (t' := tk) hk, ⟨t, rfl⟩, q⟩
  | tuple e1 e2 e3 ra =>
    refine repr_of_reads' (.tuple e1 e2 e3 ra) sh (PyData.noDict_hsm nd) gd (by omega) (fun _ _ e => e) (fun h' t tk hk => ?_) sz
    exact ⟨.str _, H, I.kept (t' := tk) hk, ⟨t, rfl⟩, q⟩
  | dict => cases nd
end
end L2.My
/-! repr of an empty dict -/
namespace L2.My
open PySem PySem.Spec PyProof.Rows
section
variable {X : Cx} {pins : List (Addr × Obj)} {σ : L2.St} {H : Hp} {s : Shared}
theorem dict_nil (I : Inv X pins σ H s) {a : Addr} (e : H a = some (.dK [])) : (a == sysModules) = false ∧ ∃ o n, s.heap.get? a = some o ∧ o.cls = .type "dict" ∧ o.data = .dict #[] n := by
  obtain ⟨_, q0, vs, q1, o, es, ep, h1, h2, h3, h4⟩ := (show ObjOk X.prog X.w H s.heap a (.dK []) from I.hok a _ e)
  cases q1
  have z : es = #[] := by
    have p := h4.2.1
    have p2 : es.toList = [] := by
      cases q : es.toList with
      | nil => rfl
      | cons x r =>
        rw [q] at p
        cases p
    exact Array.ext' p2
  subst z
  exact ⟨q0, o, ep, h1, h2.1, h3⟩
/-- repr(d) of an empty dict -/
def rReprNil : List V → Hp → VK → Prop := fun xs H Q => ∃ a, xs = [.ref a] ∧ H a = some (.dK []) ∧ Q (.str "{}") H
theorem call_reprNil (gd : X.A.guards = some []) (hu : X.A.units + 70 < cLine) : CallR X (.builtin "repr") rReprNil := by
  intro pins s σ H xs us Q I r h
  obtain ⟨a, rfl, e, q⟩ := h
  obtain ⟨ne, o, n, h1, h2, h3⟩ := dict_nil I e
  cases r with
  | cons ra rn =>
    cases rn
    cases ra
    have rd : Reads s.heap (.ref a) (.dict []) ([a] ++ []) := .dict h1 h2 h3 (by simpa using ReadsAll.nil) (by simpa using ReadsAll.nil)
    refine repr_of_reads' rd (by rfl) (fun _ hm => ?_) gd (by show X.A.units + (_ + 1) < cLine; have : (PyData.dict []).depth = 1 := rfl; omega) (fun _ _ e => e) (fun h' t tk hk => ?_) (by decide +kernel)
    · have hm2 : sysModules = a := by simpa using hm
      rw [hm2] at ne
      simp at ne
    · have z : (PyData.dict []).shown = "{}" := by decide +kernel
      rw [z]
      exact ⟨.str _, H, I.kept (t' := tk) hk, ⟨t, rfl⟩, q⟩
end
end L2.My
/-! zip of two tuples walked; < of data; in a tuple of one-text tuples; repr of data or of an empty dict -/
namespace PySem.SeqAt
section
variable {A : Around} {s : Shared}
theorem RcAt.str_dict (b : Str) (u : Tok) {l : Addr} {es : Array DictEntry} {n : Nat} {dd : Option Addr} {sl : Array (Option Value)} (ho : s.heap.get? l = some { cls := .type "dict", dict := dd, data := .dict es n, slots := sl }) (hu : A.units < cLine) : RcAt A s (.str b u) (.ref l) false :=
  fun prog w E Q h => rc_eq_decline_or (k := false) (typeIs_str s b u) ⟨_, ho, rfl⟩ (by decide) F.sub_dict_str F.slot_str_eq_refl F.slot_dict_eq
    (fun _ hq => call_meets F.slot_str_eq_refl (typeIs_str s b u) F.entry_str_eq (F.args_str_eq_2 _ _) (str_eq_no_dict b u l es n dd sl) ⟨ho, hq⟩)
    (fun _ hq => call_meets F.slot_dict_eq ⟨_, ho, rfl⟩ F.entry_dict_eq (F.args_dict_eq_2 _ _) (dict_eq_no_str l es n dd sl b u) ⟨ho, hq⟩)
    (fun _ hq => wpAny_of_eq (rfl : isSame (.str b u) (.ref l) = pure false) hq) (.inr hu) h
theorem eqAt_back {x : Value} {z : Str} {t : Tok} {k : Bool} (ne : x ≠ .str z t) (h : SeqAt.RcAt A s (.str z t) x k) : SeqAt.EqAt A s (.str z t) x k := fun prog w E Q q => by
  unfold eqBool
  refine wpAny_holding (wpAny_ite_split (fun c => absurd (eq_of_beq c).symm ne) fun _ => ?_)
  cases x <;> exact wpAny_bind (h prog w E _ (wpAny_truthy_bool q))
end
end PySem.SeqAt
namespace L2.My
open PySem PySem.Spec PyProof.Rows L2
section
variable {K : PySem.W.Frag} {a b : Addr} {xs ys : List V}
theorem walk_zipT {n : Nat} (hn : n = min xs.length ys.length) : Walk (RZ.ItzT K a b) n (fun H => SqT K H a xs ∧ SqT K H b ys) (YPair (fun i => xs[i]?) (fun i => ys[i]?)) := by
  refine ⟨fun i H hi q => ?_, fun H q => ⟨xs, ys, q.1, q.2, by omega⟩, fun i H v H' _ q y => ?_⟩
  · obtain ⟨x, hx⟩ : ∃ x, xs[i]? = some x := ⟨_, List.getElem?_eq_getElem (by omega)⟩
    obtain ⟨y, hy⟩ : ∃ y, ys[i]? = some y := ⟨_, List.getElem?_eq_getElem (by omega)⟩
    exact ⟨xs, ys, x, y, q.1, q.2, hx, hy⟩
  · obtain ⟨T, x, z, h1, h2, h3, h4, h5⟩ := y
    exact ⟨T, x, z, h1, h2, h3, h4 xs q.1, h5 ys q.2⟩
end
section
variable {X : Cx} {pins : List (Addr × Obj)} {σ : L2.St} {H : Hp} {s : Shared}
/-- x < y, both data -/
def rLtD (K : PySem.W.Frag) : R2 := fun x y H Q => ∃ d e, Dp K H x d ∧ Dp K H y e ∧ PySem.W.alike d e = true ∧ d ≠ .none ∧ d.depth ≤ 60 ∧ Q (.bl (PySem.W.dataLt d e)) H
theorem op_ltD (hu : X.A.units + 64 < cLine) : OpR X (compareOp .Lt) (rLtD X.K) := by
  intro pins s σ H x y v u Q I rx ry h
  obtain ⟨d, e, hd, he, al, ne, dp, q⟩ := h
  obtain ⟨as, r1⟩ := Dp.reads I d x v hd rx
  obtain ⟨bs, r2⟩ := Dp.reads I e y u he ry
  exact PySem.W.lt_data r1 r2 al ne (by have := Nat.min_le_left d.depth e.depth; omega) ⟨.bl _, H, I, rfl, q⟩
/-- a text against an item -/
theorem text_item (I : Inv X pins σ H s) {v : V} {u : Value} {k : Option Str} (r : RelV v u) (t : AsText H v k) (z : Str) (tk : Tok) {A : Around} (hu : A.units < cLine) : SeqAt.EqAt A s (.str z tk) u (decide (k = some z)) := by
  cases t with
  | str z' =>
    obtain ⟨t', rfl⟩ := r
    have e : decide (some z' = some z) = (z == z') := by
      rw [some_eq]
      by_cases c : z' = z
      · subst c
        simp
      · rw [beq_eq_false_iff_ne.mpr c, beq_eq_false_iff_ne.mpr fun q => c q.symm]
    rw [e]
    exact SeqAt.EqAt.str_str z tk z' t'
  | non =>
    cases r
    exact SeqAt.eqAt_back (by intro e; cases e) (SeqAt.RcAt.str_none z tk)
  | bl b =>
    cases r
    exact SeqAt.eqAt_back (by intro e; cases e) (SeqAt.RcAt.str_bool z tk b)
  | int i =>
    obtain ⟨t', rfl⟩ := r
    exact SeqAt.eqAt_back (by intro e; cases e) (SeqAt.RcAt.str_int z tk i t')
  | @lst a xs e =>
    cases r
    obtain ⟨_, its, n, _, h1⟩ := (show ObjOk X.prog X.w H s.heap a (.lst xs) from I.hok a _ e)
    exact SeqAt.eqAt_back (by intro e; cases e) (SeqAt.RcAt.str_list z tk ⟨_, h1, rfl, n, rfl⟩ hu)
  | @tup a xs e =>
    cases r
    obtain ⟨_, its, _, o, h1, h2, n, h3⟩ := (show ObjOk X.prog X.w H s.heap a (.tup xs) from I.hok a _ e)
    exact SeqAt.eqAt_back (by intro e; cases e) (SeqAt.RcAt.str_tuple z tk ⟨_, h1, h2, n, h3⟩ hu)
  | @dic a kvs e =>
    cases r
    obtain ⟨dd, es, n, sl, h1⟩ := dict_get I e
    exact SeqAt.eqAt_back (by intro e; cases e) (SeqAt.RcAt.str_dict z tk h1 hu)
/-- t in ((z,), ..), t a tuple -/
def rInTags : R2 := fun x y H Q => ∃ a b xs ks ts zs, x = .ref a ∧ y = .ref b ∧ H a = some (.tup xs) ∧ H b = some (.tup (ts.map V.ref)) ∧ Texts H xs ks ∧ List.length ts = List.length zs ∧ (∀ p ∈ ts.zip zs, H p.1 = some (.tup [.str p.2])) ∧ Q (.bl (zs.any (isTag ks))) H
theorem tagV (I : Inv X pins σ H s) {a t : Addr} {xs : List V} {ks : List (Option Str)} {z : Str} (ea : H a = some (.tup xs)) (et : H t = some (.tup [.str z])) (tx : Texts H xs ks) {A : Around} (hu : A.units + 1 < cLine) : SeqAt.EqAt A s (.ref t) (.ref a) (isTag ks z) := by
  obtain ⟨_, its, r1, o, h1, h2, n, h3⟩ := (show ObjOk X.prog X.w H s.heap a (.tup xs) from I.hok a _ ea)
  obtain ⟨_, its2, r2, o2, g1, g2, n2, g3⟩ := (show ObjOk X.prog X.w H s.heap t (.tup [.str z]) from I.hok t _ et)
  have la : s.heap.IsTuple a its.toArray := ⟨_, h1, h2, n, h3⟩
  cases r2 with
  | @cons _ w _ ws rz rn =>
    cases rn
    obtain ⟨tk, rfl⟩ := rz
    have lb : s.heap.IsTuple t #[.str z tk] := ⟨_, g1, g2, n2, g3⟩
    by_cases same : t = a
    · subst same
      rw [ea] at et
      cases et
      cases tx with
      | cons t0 tr =>
        cases tr
        cases t0
        have z1 : isTag [some z] z = true := by simp [isTag]
        rw [z1]
        exact SeqAt.EqAt.same _
    have core : SeqAt.RcAt A s (.ref t) (.ref a) (isTag ks z) := by
      have c := SeqAt.RcAt.tuples (e := fun _ => isTag [ks.headD none] z) (A := A) lb la (Nat.lt_of_succ_lt hu) (fun j j1 j2 => ?_)
      · have e : ((List.range (min (#[Value.str z tk] : Array Value).size its.toArray.size)).all (fun _ => isTag [ks.headD none] z) && (#[Value.str z tk] : Array Value).size == its.toArray.size) = isTag ks z := by
          cases r1 with
          | nil =>
            cases tx
            simp [isTag]
          | @cons v w vs ws r t =>
            cases tx with
            | @cons _ k _ kr t0 tr =>
              cases t with
              | nil =>
                cases tr
                simp [List.range_succ]
              | cons r' t' =>
                cases tr
                simp [isTag]
        rw [e] at c
        exact c
      · have j0 : j = 0 := by
          have : j < 1 := j1
          omega
        subst j0
        cases r1 with
        | nil => exact absurd j2 (by simp)
        | @cons v w vs ws r t =>
          cases tx with
          | cons t0 tr => exact text_item I r t0 z tk hu
    exact SeqAt.EqAt.of_refs same core
theorem op_inTags (hu : X.A.units + 2 < cLine) : OpR X (compareOp .In) rInTags := by
  intro pins s σ H x y v u Q I rx ry h
  obtain ⟨a, b, xs, ks, ts, zs, rfl, rfl, ea, eb, tx, ll, et, q⟩ := h
  cases rx
  cases ry
  obtain ⟨_, its, r1, o, h1, h2, n, h3⟩ := (show ObjOk X.prog X.w H s.heap b (.tup (ts.map V.ref)) from I.hok b _ eb)
  have its_ : its = ts.map Value.ref := by
    clear eb h3 et ll
    revert r1
    generalize ts = ts
    intro r1
    induction ts generalizing its with
    | nil =>
      cases r1
      rfl
    | cons t ts ih =>
      cases r1 with
      | cons r rr =>
        cases r
        rw [ih _ rr]
        rfl
  subst its_
  have lb : s.heap.IsTuple b (ts.map Value.ref).toArray := ⟨_, h1, h2, n, h3⟩
  let e : Value → Bool := fun v => match v with
    | .ref t => (match (ts.zip zs).find? fun p => p.1 == t with
      | some p => isTag ks p.2
      | none => false)
    | _ => false
  have he : ∀ p ∈ ts.zip zs, e (.ref p.1) = isTag ks p.2 := fun p hp => by
    show (match (ts.zip zs).find? fun q => q.1 == p.1 with
      | some p => isTag ks p.2
      | none => false) = _
    cases f : (ts.zip zs).find? fun q => q.1 == p.1 with
    | none => exact absurd (List.find?_eq_none.mp f p hp) (by simp)
    | some q' =>
      have m := List.mem_of_find?_eq_some f
      have c : q'.1 = p.1 := by
        have z := List.find?_some f
        simpa using z
      have e1 := et q' m
      have e2 := et p hp
      rw [c, e2] at e1
      injection e1 with e1
      injection e1 with e1
      injection e1 with e1 _
      injection e1 with e1
      show isTag ks q'.2 = _
      rw [e1]
  refine SeqAt.in_tupleAt e lb (fun w hw => ?_) ⟨.bl _, H, I, rfl, ?_⟩
  · obtain ⟨t, ht, rfl⟩ := List.mem_map.mp (by simpa using hw : w ∈ ts.map Value.ref)
    obtain ⟨j, hj⟩ := List.mem_iff_getElem?.mp ht
    obtain ⟨z, hz⟩ : ∃ z, zs[j]? = some z := by
      obtain ⟨l, _⟩ := List.getElem?_eq_some_iff.mp hj
      exact ⟨_, List.getElem?_eq_getElem (ll ▸ l)⟩
    have hp : (t, z) ∈ ts.zip zs := List.mem_iff_getElem?.mpr ⟨j, by rw [List.getElem?_zip_eq_some]; exact ⟨hj, hz⟩⟩
    rw [he _ hp]
    exact tagV I ea (et _ hp) tx (A := X.A.in1) (by show X.A.in1.units + 1 < cLine; have z : X.A.in1.units ≤ X.A.units + 1 := by simp [Around.in1]
                                                    omega)
  · have z : (ts.map Value.ref).toArray.any e = zs.any (isTag ks) := by
      rw [List.any_toArray]
      clear eb h3 lb h1 h2 r1
      have key : ∀ (ts : List Addr) (zs : List Str), ts.length = zs.length → (∀ p ∈ ts.zip zs, e (.ref p.1) = isTag ks p.2) → (ts.map Value.ref).any e = zs.any (isTag ks) := by
        intro ts
        induction ts with
        | nil =>
          intro zs l _
          cases zs with
          | nil => rfl
          | cons _ _ => cases l
        | cons t ts ih =>
          intro zs l h
          cases zs with
          | nil => cases l
          | cons z zs =>
            rw [List.map_cons, List.any_cons, List.any_cons, h (t, z) (by simp), ih zs (Nat.succ.inj l) fun p hp => h p (by rw [List.zip_cons_cons]; exact List.mem_cons_of_mem _ hp)]
      exact key ts zs ll he
    rw [z]
    exact q
/-- repr of data, or of an empty dict -/
theorem call_reprE (gd : X.A.guards = some []) (hu : X.A.units + 70 < cLine) : CallR X (.builtin "repr") (fun xs H Q => rRepr X.K xs H Q ∨ rReprNil xs H Q) := by
  intro pins s σ H xs us Q I r h
  rcases h with h | h
  · exact call_repr gd hu pins s σ H xs us Q I r h
  · exact call_reprNil gd hu pins s σ H xs us Q I r h
end
end L2.My
namespace Met
/-! ### the pure numbers of meetings: the greatest divisor with its two factors -/
structure Tri where
  g : Int
  x : Int
  y : Int
def stepD (o n : Tri) : Tri := ⟨o.g - o.g.fdiv n.g * n.g, o.x - o.g.fdiv n.g * n.x, o.y - o.g.fdiv n.g * n.y⟩
def divL : Nat → Tri → Tri → Tri
  | 0, o, _ => o
  | f + 1, o, n => if n.g = 0 then o else divL f n (stepD o n)
def posT (o : Tri) : Tri := if 0 < o.g then o else ⟨-o.g, -o.x, -o.y⟩
def divOf (a b : Int) : Tri := posT (divL (b.natAbs + 1) ⟨a, 1, 0⟩ ⟨b, 0, 1⟩)
theorem step_g (o n : Tri) : (stepD o n).g = o.g.fmod n.g := by
  show o.g - o.g.fdiv n.g * n.g = _
  rw [Int.fmod_def, Int.mul_comm]
theorem fmod_sign {a b : Int} (h : b ≠ 0) : (0 < b → 0 ≤ a.fmod b ∧ a.fmod b < b) ∧ (b < 0 → b < a.fmod b ∧ a.fmod b ≤ 0) := by
  refine ⟨fun p => ⟨Int.fmod_nonneg_of_pos a p, Int.fmod_lt_of_pos a p⟩, fun p => ?_⟩
  have e := Int.neg_fmod_neg (-a) (-b)
  rw [Int.neg_neg, Int.neg_neg] at e
  have q : 0 < -b := by omega
  have q1 := Int.fmod_nonneg_of_pos (-a) q
  have q2 := Int.fmod_lt_of_pos (-a) q
  omega
theorem fmod_less {a b : Int} (h : b ≠ 0) : (a.fmod b).natAbs < b.natAbs := by
  obtain ⟨h1, h2⟩ := fmod_sign (a := a) h
  rcases Int.lt_or_lt_of_ne h with p | p
  · have := h2 p
    omega
  · have := h1 p
    omega
theorem fdiv_split (a b : Int) : a = a.fdiv b * b + a.fmod b := by
  have := Int.mul_fdiv_add_fmod a b
  rw [Int.mul_comm]
  omega
/-- what holds at each turn: the two numbers are told by their factors, and have no other common divisors than the first two -/
structure Turn (a b : Int) (o n : Tri) : Prop where
  eo : o.g = a * o.x + b * o.y
  en : n.g = a * n.x + b * n.y
  dv : ∀ d, d ∣ o.g → d ∣ n.g → d ∣ a ∧ d ∣ b
  nz : o.g ≠ 0 ∨ n.g ≠ 0
theorem Turn.start {a b : Int} (h : a ≠ 0 ∨ b ≠ 0) : Turn a b ⟨a, 1, 0⟩ ⟨b, 0, 1⟩ := by
  refine ⟨?_, ?_, fun d h1 h2 => ⟨h1, h2⟩, h⟩
  · show a = a * 1 + b * 0
    omega
  · show b = a * 0 + b * 1
    omega
theorem Turn.step {a b : Int} {o n : Tri} (t : Turn a b o n) (h : n.g ≠ 0) : Turn a b n (stepD o n) := by
  obtain ⟨eo, en, dv, nz⟩ := t
  refine ⟨en, ?_, fun d h1 h2 => ?_, .inl h⟩
  · show o.g - o.g.fdiv n.g * n.g = a * (o.x - o.g.fdiv n.g * n.x) + b * (o.y - o.g.fdiv n.g * n.y)
    generalize o.g.fdiv n.g = q
    rw [eo, en]
    grind
  · refine dv d ?_ h1
    have e : o.g = o.g.fdiv n.g * n.g + (stepD o n).g := by
      rw [step_g]
      exact fdiv_split _ _
    rw [e]
    exact Int.dvd_add (Int.dvd_trans h1 (Int.dvd_mul_left _ _)) h2
theorem divL_turn {a b : Int} : ∀ (f : Nat) (o n : Tri), Turn a b o n → n.g.natAbs < f → ∃ m, Turn a b (divL f o n) m ∧ m.g = 0 := by
  intro f
  induction f with
  | zero =>
    intro o n _ h
    omega
  | succ f ih =>
    intro o n t h
    by_cases c : n.g = 0
    · refine ⟨n, ?_, c⟩
      show Turn a b (if n.g = 0 then o else _) n
      rw [if_pos c]
      exact t
    · have q := ih n (stepD o n) (t.step c) (by rw [step_g]; have := fmod_less (a := o.g) c; omega)
      show ∃ m, Turn a b (if n.g = 0 then o else divL f n (stepD o n)) m ∧ m.g = 0
      rw [if_neg c]
      exact q
/-- the divisor: above 0, told by its factors, a divisor of both -/
structure Dvd (a b : Int) (t : Tri) : Prop where
  pos : 0 < t.g
  eq : a * t.x + b * t.y = t.g
  da : t.g ∣ a
  db : t.g ∣ b
theorem divOf_ok {a b : Int} (h : a ≠ 0 ∨ b ≠ 0) : Dvd a b (divOf a b) := by
  obtain ⟨m, t, z⟩ := divL_turn (b.natAbs + 1) ⟨a, 1, 0⟩ ⟨b, 0, 1⟩ (Turn.start h) (Nat.lt_succ_self _)
  unfold divOf posT
  generalize divL (b.natAbs + 1) ⟨a, 1, 0⟩ ⟨b, 0, 1⟩ = o at t ⊢
  obtain ⟨eo, _, dv, nz⟩ := t
  have d0 := dv o.g ⟨1, by omega⟩ (by rw [z]; exact ⟨0, by omega⟩)
  have no : o.g ≠ 0 := by
    rcases nz with q | q
    · exact q
    · exact absurd z q
  by_cases c : 0 < o.g
  · rw [if_pos c]
    exact ⟨c, eo.symm, d0.1, d0.2⟩
  · rw [if_neg c]
    refine ⟨by show 0 < -o.g; omega, ?_, Int.neg_dvd.mpr d0.1, Int.neg_dvd.mpr d0.2⟩
    show a * -o.x + b * -o.y = -o.g
    rw [eo]
    grind
/-! sizes: the factors are no greater than the numbers -/
structure Small (C : Nat) (o n : Tri) : Prop where
  sg : 0 ≤ o.g * n.g
  sx : n.g.natAbs * o.x.natAbs + o.g.natAbs * n.x.natAbs ≤ C
  sy : n.g.natAbs * o.y.natAbs + o.g.natAbs * n.y.natAbs ≤ C
theorem part_le {r0 r1 q r2 x0 x1 : Int} (C : Nat) (e : r0.natAbs = q.natAbs * r1.natAbs + r2.natAbs) (h : r1.natAbs * x0.natAbs + r0.natAbs * x1.natAbs ≤ C) :
    r2.natAbs * x1.natAbs + r1.natAbs * (x0 - q * x1).natAbs ≤ C := by
  have t : (x0 - q * x1).natAbs ≤ x0.natAbs + q.natAbs * x1.natAbs := by
    rw [← Int.natAbs_mul]
    omega
  have t2 := Nat.mul_le_mul_left r1.natAbs t
  have e2 : r1.natAbs * (x0.natAbs + q.natAbs * x1.natAbs) + r2.natAbs * x1.natAbs = r1.natAbs * x0.natAbs + r0.natAbs * x1.natAbs := by
    rw [e]
    grind
  omega
theorem quot_abs {a b : Int} (h : b ≠ 0) (s : 0 ≤ a * b) : a.natAbs = (a.fdiv b).natAbs * b.natAbs + (a.fmod b).natAbs ∧ 0 ≤ b * a.fmod b := by
  have e := fdiv_split a b
  obtain ⟨h1, h2⟩ := fmod_sign (a := a) h
  rw [← Int.natAbs_mul]
  generalize hq : a.fdiv b = q at e ⊢
  generalize hr : a.fmod b = r at e h1 h2 ⊢
  rcases Int.lt_or_lt_of_ne h with p | p
  · obtain ⟨r1, r2⟩ := h2 p
    have a0 : a ≤ 0 := by
      by_cases c : 0 < a
      · have := Int.mul_neg_of_pos_of_neg c p
        omega
      · omega
    have qb : q * b ≤ 0 := by
      by_cases c : q < 0
      · have u : b * (q + 1) ≥ 0 := Int.mul_nonneg_of_nonpos_of_nonpos (by omega) (by omega)
        have u2 : b * (q + 1) = q * b + b := by grind
        omega
      · exact Int.mul_nonpos_of_nonneg_of_nonpos (by omega) (by omega)
    exact ⟨by omega, Int.mul_nonneg_of_nonpos_of_nonpos (by omega) r2⟩
  · obtain ⟨r1, r2⟩ := h1 p
    have a0 : 0 ≤ a := by
      by_cases c : a < 0
      · have := Int.mul_neg_of_neg_of_pos c p
        omega
      · omega
    have qb : 0 ≤ q * b := by
      by_cases c : q < 0
      · have u : (q + 1) * b ≤ 0 := Int.mul_nonpos_of_nonpos_of_nonneg (by omega) (by omega)
        have u2 : (q + 1) * b = q * b + b := by grind
        omega
      · exact Int.mul_nonneg (by omega) (by omega)
    exact ⟨by omega, Int.mul_nonneg (by omega) r1⟩
theorem Small.step {C : Nat} {o n : Tri} (s : Small C o n) (h : n.g ≠ 0) : Small C n (stepD o n) := by
  obtain ⟨q1, q2⟩ := quot_abs h s.sg
  refine ⟨by rw [step_g]; exact q2, ?_, ?_⟩
  · rw [step_g]
    exact part_le C q1 s.sx
  · rw [step_g]
    exact part_le C q1 s.sy
/-- whatever the signs are: behind the first turn the sizes are kept -/
theorem Small.first {a b : Int} (h : b ≠ 0) : Small (a.natAbs + 2 * b.natAbs) ⟨b, 0, 1⟩ (stepD ⟨a, 1, 0⟩ ⟨b, 0, 1⟩) := by
  have e := fdiv_split a b
  obtain ⟨h1, h2⟩ := fmod_sign (a := a) h
  have l := fmod_less (a := a) h
  have g := step_g ⟨a, 1, 0⟩ ⟨b, 0, 1⟩
  have sg : 0 ≤ b * a.fmod b := by
    rcases Int.lt_or_lt_of_ne h with p | p
    · exact Int.mul_nonneg_of_nonpos_of_nonpos (by omega) (h2 p).2
    · exact Int.mul_nonneg (by omega) (h1 p).1
  have m : (a.fdiv b).natAbs * b.natAbs ≤ a.natAbs + b.natAbs := by
    rw [← Int.natAbs_mul]
    omega
  refine ⟨by rw [g]; exact sg, ?_, ?_⟩
  · rw [g]
    show (a.fmod b).natAbs * (0 : Int).natAbs + b.natAbs * (1 - a.fdiv b * 0 : Int).natAbs ≤ _
    rw [Int.mul_zero]
    show (a.fmod b).natAbs * 0 + b.natAbs * 1 ≤ _
    omega
  · rw [g]
    show (a.fmod b).natAbs * (1 : Int).natAbs + b.natAbs * (0 - a.fdiv b * 1 : Int).natAbs ≤ _
    rw [Int.mul_one]
    have z : (0 - a.fdiv b).natAbs = (a.fdiv b).natAbs := by omega
    rw [z, Nat.mul_comm b.natAbs]
    show (a.fmod b).natAbs * 1 + _ ≤ _
    omega
end Met
namespace Met
/-! ### sizes at each turn of the divisor's loop -/
structure Lim (C : Nat) (t : Tri) : Prop where
  g : t.g.natAbs ≤ C
  x : t.x.natAbs ≤ C
  y : t.y.natAbs ≤ C
inductive J (a b : Int) : Tri → Tri → Prop
  | start : J a b ⟨a, 1, 0⟩ ⟨b, 0, 1⟩
  | on {o n : Tri} (no : o.g ≠ 0) (s : Small (a.natAbs + 2 * b.natAbs + 1) o n) (lo : Lim (a.natAbs + 2 * b.natAbs + 1) o) (ln : n.g.natAbs ≤ a.natAbs + 2 * b.natAbs + 1) : J a b o n
theorem le_of_mul {u v w C : Nat} (hu : u ≠ 0) (h : w + u * v ≤ C) : v ≤ C := by
  have : 1 * v ≤ u * v := Nat.mul_le_mul_right v (Nat.pos_of_ne_zero hu)
  omega
theorem J.lim {a b : Int} {o n : Tri} (j : J a b o n) : Lim (a.natAbs + 2 * b.natAbs + 1) o ∧ Lim (a.natAbs + 2 * b.natAbs + 1) n := by
  cases j with
  | start => exact ⟨⟨by show a.natAbs ≤ _; omega, by show 1 ≤ _; omega, Nat.zero_le _⟩, ⟨by show b.natAbs ≤ _; omega, Nat.zero_le _, by show 1 ≤ _; omega⟩⟩
  | on no s lo ln =>
    have z : o.g.natAbs ≠ 0 := by omega
    exact ⟨lo, ln, le_of_mul z s.sx, le_of_mul z s.sy⟩
theorem Small.more {C D : Nat} {o n : Tri} (s : Small C o n) (h : C ≤ D) : Small D o n := ⟨s.sg, Nat.le_trans s.sx h, Nat.le_trans s.sy h⟩
theorem J.step {a b : Int} {o n : Tri} (j : J a b o n) (h : n.g ≠ 0) : J a b n (stepD o n) := by
  obtain ⟨lo, ln⟩ := j.lim
  have l := fmod_less (a := o.g) h
  have lg := ln.g
  refine .on h ?_ ln (by rw [step_g]; omega)
  cases j with
  | start => exact (Small.first h).more (Nat.le_succ _)
  | on no s lo ln => exact s.step h
theorem J.divL {a b : Int} : ∀ (f : Nat) (o n : Tri), J a b o n → Lim (a.natAbs + 2 * b.natAbs + 1) (divL f o n) := by
  intro f
  induction f with
  | zero => exact fun o n j => j.lim.1
  | succ f ih =>
    intro o n j
    show Lim _ (if n.g = 0 then o else Met.divL f n (stepD o n))
    by_cases c : n.g = 0
    · rw [if_pos c]
      exact j.lim.1
    · rw [if_neg c]
      exact ih _ _ (j.step c)
theorem posT_lim {C : Nat} {t : Tri} (l : Lim C t) : Lim C (posT t) := by
  unfold posT
  by_cases c : 0 < t.g
  · rw [if_pos c]
    exact l
  · rw [if_neg c]
    obtain ⟨h1, h2, h3⟩ := l
    exact ⟨by show (-t.g).natAbs ≤ C; omega, by show (-t.x).natAbs ≤ C; omega, by show (-t.y).natAbs ≤ C; omega⟩
theorem divOf_lim (a b : Int) : Lim (a.natAbs + 2 * b.natAbs + 1) (divOf a b) := posT_lim (J.divL _ _ _ .start)
/-- the loop's turn, by its room -/
theorem divL_next {f : Nat} {o n : Tri} (c : n.g ≠ 0) : divL (f + 1) o n = divL f n (stepD o n) := by
  show (if n.g = 0 then o else _) = _
  rw [if_neg c]
theorem divL_end {f : Nat} {o n : Tri} (c : n.g = 0) : divL f o n = o := by
  cases f with
  | zero => rfl
  | succ f =>
    show (if n.g = 0 then o else _) = _
    rw [if_pos c]
theorem divL_room : ∀ (f g : Nat) (o n : Tri), n.g.natAbs < f → n.g.natAbs < g → divL f o n = divL g o n := by
  intro f
  induction f with
  | zero =>
    intro g o n h _
    omega
  | succ f ih =>
    intro g o n hf hg
    by_cases c : n.g = 0
    · rw [divL_end c, divL_end c]
    · cases g with
      | zero => omega
      | succ g =>
        rw [divL_next c, divL_next c]
        have l := fmod_less (a := o.g) c
        exact ih g n _ (by rw [step_g]; omega) (by rw [step_g]; omega)
/-! ### the line of two places -/
abbrev Pr := Int × Int
structure Line where
  base : Pr
  step : Pr
def lineOf (p q : Pr) : Option Line :=
  let d := divOf p.1 q.1
  if (q.2 - p.2) % d.g ≠ 0 then none else some ⟨(d.x * ((q.2 - p.2) / d.g), -d.y * ((q.2 - p.2) / d.g)), (q.1 / d.g, p.1 / d.g)⟩
def after (p s : Pr) (k : Int) : Pr := (p.1 + s.1 * k, p.2 + s.2 * k)
/-- two places meet in a pair of rounds -/
def Meet (p q : Pr) (e : Pr) : Prop := p.1 * e.1 + p.2 = q.1 * e.2 + q.2
theorem line_none {p q : Pr} (h : p.1 ≠ 0 ∨ q.1 ≠ 0) (n : lineOf p q = none) (e : Pr) : ¬ Meet p q e := by
  have D := divOf_ok h
  unfold lineOf at n
  generalize hd : divOf p.1 q.1 = d at D n
  by_cases c : (q.2 - p.2) % d.g ≠ 0
  · intro m
    apply c
    have dv : d.g ∣ q.2 - p.2 := by
      have e1 : q.2 - p.2 = p.1 * e.1 - q.1 * e.2 := by
        unfold Meet at m
        omega
      rw [e1]
      exact Int.dvd_sub (Int.dvd_mul_of_dvd_left D.da) (Int.dvd_mul_of_dvd_left D.db)
    exact Int.emod_eq_zero_of_dvd dv
  · rw [if_neg c] at n
    cases n
/-- the pairs of the line are the pairs in which the places meet -/
theorem line_some {p q : Pr} (h : p.1 ≠ 0 ∨ q.1 ≠ 0) {l : Line} (n : lineOf p q = some l) : (∀ e : Pr, Meet p q e ↔ ∃ k, e = after l.base l.step k) ∧ (l.step.1 ≠ 0 ∨ l.step.2 ≠ 0) := by
  have D := divOf_ok h
  unfold lineOf at n
  generalize hd : divOf p.1 q.1 = d at D n
  obtain ⟨pos, eq, ⟨u, hu⟩, ⟨v, hv⟩⟩ := D
  have g0 : d.g ≠ 0 := by omega
  by_cases c : (q.2 - p.2) % d.g ≠ 0
  · rw [if_pos c] at n
    cases n
  · rw [if_neg c] at n
    have n := Option.some.inj n
    subst n
    obtain ⟨t, ht⟩ : d.g ∣ q.2 - p.2 := Int.dvd_of_emod_eq_zero (by omega)
    have e1 : (q.2 - p.2) / d.g = t := by
      rw [ht]
      exact Int.mul_ediv_cancel_left _ g0
    have e2 : q.1 / d.g = v := by
      rw [hv]
      exact Int.mul_ediv_cancel_left _ g0
    have e3 : p.1 / d.g = u := by
      rw [hu]
      exact Int.mul_ediv_cancel_left _ g0
    have one : u * d.x + v * d.y = 1 := by
      have z : d.g * (u * d.x + v * d.y) = d.g * 1 := by
        rw [hu, hv] at eq
        grind
      exact Int.eq_of_mul_eq_mul_left g0 z
    refine ⟨fun e => ?_, ?_⟩
    · show Meet p q e ↔ ∃ k, e = (d.x * ((q.2 - p.2) / d.g) + q.1 / d.g * k, -d.y * ((q.2 - p.2) / d.g) + p.1 / d.g * k)
      rw [e1, e2, e3]
      unfold Meet
      rw [hu, hv]
      constructor
      · intro m
        have m2 : d.g * (u * e.1 - v * e.2) = d.g * t := by
          rw [← ht]
          grind
        have m3 : u * e.1 - v * e.2 = t := Int.eq_of_mul_eq_mul_left g0 m2
        refine ⟨d.x * e.2 + d.y * e.1, Prod.ext ?_ ?_⟩
        · show e.1 = d.x * t + v * (d.x * e.2 + d.y * e.1)
          rw [← m3]
          grind
        · show e.2 = -d.y * t + u * (d.x * e.2 + d.y * e.1)
          rw [← m3]
          grind
      · rintro ⟨k, rfl⟩
        show d.g * u * (d.x * t + v * k) + p.2 = d.g * v * (-d.y * t + u * k) + q.2
        have q2 : q.2 = d.g * t + p.2 := by omega
        rw [q2]
        have w : d.g * t * (u * d.x + v * d.y) = d.g * t := by rw [one, Int.mul_one]
        grind
    · show q.1 / d.g ≠ 0 ∨ p.1 / d.g ≠ 0
      rw [e2, e3]
      rcases h with h | h
      · right
        intro z
        rw [z, Int.mul_zero] at hu
        exact h hu
      · left
        intro z
        rw [z, Int.mul_zero] at hv
        exact h hv
end Met
namespace Met
/-! ### bounds, how far a pair keeps them, the span of the pairs that keep all -/
structure Bd where
  low : Int
  high : Option Int
  first : Int
  rounds : Option Int
def Keeps (b : Bd) (e : Pr) : Prop := b.first ≤ e.1 ∧ b.low ≤ e.2 - e.1 ∧ (∀ h, b.high = some h → e.2 - e.1 ≤ h) ∧ ∀ r, b.rounds = some r → e.2 < r
def slacks (e : Pr) (b : Bd) : List Int :=
  [e.1 - b.first, e.2 - e.1 - b.low] ++ (match b.high with | some h => [h - e.2 + e.1] | none => []) ++ (match b.rounds with | some r => [r - 1 - e.2] | none => [])
theorem slacks_iff (e : Pr) (b : Bd) : (∀ x ∈ slacks e b, 0 ≤ x) ↔ Keeps b e := by
  obtain ⟨low, high, first, rounds⟩ := b
  unfold slacks Keeps
  cases high <;> cases rounds <;> simp <;> omega
/-- the limits of a run of slacks, each with the one of the next pair -/
def limL : List (Int × Int) → List Int → List Int → Option (List Int × List Int)
  | [], s, e => some (s, e)
  | x :: r, s, e =>
    if 0 < x.2 - x.1 then limL r (s ++ [-(x.1 / (x.2 - x.1))]) e
    else if x.2 - x.1 < 0 then limL r s (e ++ [x.1 / -(x.2 - x.1)])
    else if x.1 < 0 then none else limL r s e
def In (x : List Int × List Int) (k : Int) : Prop := (∀ s ∈ x.1, s ≤ k) ∧ ∀ e ∈ x.2, k ≤ e
theorem up_iff {a g k : Int} (h : 0 < g) : 0 ≤ a + g * k ↔ -(a / g) ≤ k := by
  have e := Int.mul_ediv_add_emod a g
  have r0 := Int.emod_nonneg a (by omega : g ≠ 0)
  have r1 := Int.emod_lt_of_pos a h
  generalize a / g = q at e
  generalize a % g = r at e r0 r1
  have z : a + g * k = g * (q + k) + r := by grind
  rw [z]
  constructor
  · intro w
    by_cases c : q + k < 0
    · have u : g * (q + k + 1) ≤ 0 := Int.mul_nonpos_of_nonneg_of_nonpos (by omega) (by omega)
      have u2 : g * (q + k + 1) = g * (q + k) + g := by grind
      omega
    · omega
  · intro w
    have u : 0 ≤ g * (q + k) := Int.mul_nonneg (by omega) (by omega)
    omega
theorem down_iff {a g k : Int} (h : g < 0) : 0 ≤ a + g * k ↔ k ≤ a / -g := by
  have u := up_iff (a := a) (g := -g) (k := -k) (by omega)
  rw [Int.neg_mul_neg] at u
  rw [u]
  omega
/-- a run of slacks, by the number of the pair -/
def Line2 (zs : List (Int × Int)) (k : Int) : Prop := ∀ x ∈ zs, 0 ≤ x.1 + (x.2 - x.1) * k
theorem limL_iff (k : Int) : ∀ (zs : List (Int × Int)) (s e : List Int),
    match limL zs s e with
    | none => ∀ j, ¬ Line2 zs j
    | some x => In x k ↔ In (s, e) k ∧ Line2 zs k := by
  intro zs
  induction zs with
  | nil =>
    intro s e
    show In (s, e) k ↔ In (s, e) k ∧ Line2 [] k
    exact ⟨fun h => ⟨h, fun x m => absurd m List.not_mem_nil⟩, And.left⟩
  | cons x r ih =>
    intro s e
    have more : ∀ j, Line2 (x :: r) j ↔ (0 ≤ x.1 + (x.2 - x.1) * j) ∧ Line2 r j := fun j => by
      unfold Line2
      simp
    by_cases c : 0 < x.2 - x.1
    · have i := ih (s ++ [-(x.1 / (x.2 - x.1))]) e
      have z : limL (x :: r) s e = limL r (s ++ [-(x.1 / (x.2 - x.1))]) e := by
        rw [limL, if_pos c]
      rw [z]
      cases h : limL r (s ++ [-(x.1 / (x.2 - x.1))]) e with
      | none =>
        rw [h] at i
        exact fun j w => i j ((more j).mp w).2
      | some y =>
        rw [h] at i
        show In y k ↔ _
        rw [show In y k ↔ _ from i, more, up_iff c]
        unfold In
        constructor
        · rintro ⟨⟨h1, h2⟩, h3⟩
          exact ⟨⟨fun u m => h1 u (List.mem_append_left _ m), h2⟩, h1 _ (List.mem_append_right _ (List.mem_singleton.mpr rfl)), h3⟩
        · rintro ⟨⟨h1, h2⟩, h4, h3⟩
          refine ⟨⟨fun u m => ?_, h2⟩, h3⟩
          rcases List.mem_append.mp m with m | m
          · exact h1 u m
          · rw [List.mem_singleton.mp m]
            exact h4
    · by_cases c2 : x.2 - x.1 < 0
      · have i := ih s (e ++ [x.1 / -(x.2 - x.1)])
        have z : limL (x :: r) s e = limL r s (e ++ [x.1 / -(x.2 - x.1)]) := by
          rw [limL, if_neg c, if_pos c2]
        rw [z]
        cases h : limL r s (e ++ [x.1 / -(x.2 - x.1)]) with
        | none =>
          rw [h] at i
          exact fun j w => i j ((more j).mp w).2
        | some y =>
          rw [h] at i
          show In y k ↔ _
          rw [show In y k ↔ _ from i, more, down_iff c2]
          unfold In
          constructor
          · rintro ⟨⟨h1, h2⟩, h3⟩
            exact ⟨⟨h1, fun u m => h2 u (List.mem_append_left _ m)⟩, h2 _ (List.mem_append_right _ (List.mem_singleton.mpr rfl)), h3⟩
          · rintro ⟨⟨h1, h2⟩, h4, h3⟩
            refine ⟨⟨h1, fun u m => ?_⟩, h3⟩
            rcases List.mem_append.mp m with m | m
            · exact h2 u m
            · rw [List.mem_singleton.mp m]
              exact h4
      · have g0 : x.2 - x.1 = 0 := by omega
        by_cases c3 : x.1 < 0
        · have z : limL (x :: r) s e = none := by
            rw [limL, if_neg c, if_neg c2, if_pos c3]
          rw [z]
          intro j w
          have := ((more j).mp w).1
          rw [g0, Int.zero_mul] at this
          omega
        · have z : limL (x :: r) s e = limL r s e := by
            rw [limL, if_neg c, if_neg c2, if_neg c3]
          rw [z]
          have i := ih s e
          have t : ∀ j, 0 ≤ x.1 + (x.2 - x.1) * j := fun j => by
            rw [g0, Int.zero_mul]
            omega
          cases h : limL r s e with
          | none =>
            rw [h] at i
            exact fun j w => i j ((more j).mp w).2
          | some y =>
            rw [h] at i
            show In y k ↔ _
            rw [show In y k ↔ _ from i, more]
            exact ⟨fun w => ⟨w.1, t k, w.2⟩, fun w => ⟨w.1, w.2.2⟩⟩
def limits (l : Line) (b : Bd) : Option (List Int × List Int) := limL ((slacks l.base b).zip (slacks (after l.base l.step 1) b)) [] []
/-- the run of slacks tells the pair's slacks -/
theorem line2_iff (l : Line) (b : Bd) (k : Int) : Line2 ((slacks l.base b).zip (slacks (after l.base l.step 1) b)) k ↔ Keeps b (after l.base l.step k) := by
  obtain ⟨⟨p1, p2⟩, ⟨s1, s2⟩⟩ := l
  obtain ⟨low, high, first, rounds⟩ := b
  unfold Line2 Keeps slacks after
  have a1 : p1 - first + (p1 + s1 * 1 - first - (p1 - first)) * k = p1 + s1 * k - first := by grind
  have a2 : p2 - p1 - low + (p2 + s2 * 1 - (p1 + s1 * 1) - low - (p2 - p1 - low)) * k = p2 + s2 * k - (p1 + s1 * k) - low := by grind
  have a3 : ∀ h, h - p2 + p1 + (h - (p2 + s2 * 1) + (p1 + s1 * 1) - (h - p2 + p1)) * k = h - (p2 + s2 * k) + (p1 + s1 * k) := fun h => by grind
  have a4 : ∀ r, r - 1 - p2 + (r - 1 - (p2 + s2 * 1) - (r - 1 - p2)) * k = r - 1 - (p2 + s2 * k) := fun r => by grind
  have c1 : (0 ≤ p1 - first + (p1 + s1 * 1 - first - (p1 - first)) * k) ↔ first ≤ p1 + s1 * k := by omega
  have c2 : (0 ≤ p2 - p1 - low + (p2 + s2 * 1 - (p1 + s1 * 1) - low - (p2 - p1 - low)) * k) ↔ low ≤ p2 + s2 * k - (p1 + s1 * k) := by omega
  have c3 : ∀ h, (0 ≤ h - p2 + p1 + (h - (p2 + s2 * 1) + (p1 + s1 * 1) - (h - p2 + p1)) * k) ↔ p2 + s2 * k - (p1 + s1 * k) ≤ h := fun h => by
    have := a3 h
    omega
  have c4 : ∀ r, (0 ≤ r - 1 - p2 + (r - 1 - (p2 + s2 * 1) - (r - 1 - p2)) * k) ↔ p2 + s2 * k < r := fun r => by
    have := a4 r
    omega
  cases high <;> cases rounds <;>
    simp only [List.cons_append, List.nil_append, List.append_nil, List.zip_cons_cons, List.zip_nil_left, List.mem_cons, List.not_mem_nil, or_false, forall_eq_or_imp, forall_eq, c1, c2, c3, c4, Option.some.injEq, reduceCtorEq, forall_eq', false_implies, implies_true, and_true, true_and]
/-- the pairs that keep all bounds are those within the limits -/
theorem limits_none {l : Line} {b : Bd} (h : limits l b = none) (k : Int) : ¬ Keeps b (after l.base l.step k) := by
  have i := limL_iff k ((slacks l.base b).zip (slacks (after l.base l.step 1) b)) [] []
  have h2 : limL ((slacks l.base b).zip (slacks (after l.base l.step 1) b)) [] [] = none := h
  rw [h2] at i
  exact fun w => i k ((line2_iff l b k).mpr w)
theorem limits_some {l : Line} {b : Bd} {x : List Int × List Int} (h : limits l b = some x) (k : Int) : In x k ↔ Keeps b (after l.base l.step k) := by
  have i := limL_iff k ((slacks l.base b).zip (slacks (after l.base l.step 1) b)) [] []
  have h2 : limL ((slacks l.base b).zip (slacks (after l.base l.step 1) b)) [] [] = some x := h
  rw [h2] at i
  rw [show In x k ↔ _ from i, ← line2_iff]
  exact ⟨fun w => w.2, fun w => ⟨⟨fun u m => absurd m List.not_mem_nil, fun u m => absurd m List.not_mem_nil⟩, w⟩⟩
end Met
namespace Met
/-! ### the span: from where on and up to where the pairs keep all bounds -/
abbrev Span := Option Int × Option Int
def InS (s : Span) (k : Int) : Prop := (∀ a, s.1 = some a → a ≤ k) ∧ ∀ b, s.2 = some b → k ≤ b
def gap (a b : Option Int) : Bool := match a, b with | some a, some b => decide (b < a) | _, _ => false
def spanOf (x : Option (List Int × List Int)) : Option Span :=
  match x with
  | none => none
  | some x => if gap x.1.max? x.2.min? = true then none else some (x.1.max?, x.2.min?)
theorem max_iff (s : List Int) (k : Int) : (∀ u ∈ s, u ≤ k) ↔ ∀ a, s.max? = some a → a ≤ k := by
  cases h : s.max? with
  | none =>
    rw [List.max?_eq_none_iff] at h
    subst h
    simp
  | some a =>
    have := List.max?_eq_some_iff.mp h
    constructor
    · intro w b e
      cases e
      exact w a this.1
    · intro w u m
      exact Int.le_trans (this.2 u m) (w a rfl)
theorem min_iff (s : List Int) (k : Int) : (∀ u ∈ s, k ≤ u) ↔ ∀ a, s.min? = some a → k ≤ a := by
  cases h : s.min? with
  | none =>
    rw [List.min?_eq_none_iff] at h
    subst h
    simp
  | some a =>
    have := List.min?_eq_some_iff.mp h
    constructor
    · intro w b e
      cases e
      exact w a this.1
    · intro w u m
      exact Int.le_trans (w a rfl) (this.2 u m)
theorem span_in (x : List Int × List Int) (k : Int) : In x k ↔ InS (x.1.max?, x.2.min?) k := by
  unfold In InS
  rw [max_iff, min_iff]
theorem gap_no {a b : Option Int} (h : gap a b = true) (k : Int) : ¬ InS (a, b) k := by
  rintro ⟨h1, h2⟩
  cases a with
  | none => cases h
  | some a =>
    cases b with
    | none => cases h
    | some b =>
      have h3 := of_decide_eq_true (show decide (b < a) = true from h)
      have := h1 a rfl
      have := h2 b rfl
      omega
theorem gap_yes {a b : Option Int} (h : gap a b = false) : ∃ k, InS (a, b) k ∧ (∀ x, a = some x → InS (a, b) x) ∧ ∀ x, b = some x → InS (a, b) x := by
  unfold InS
  cases a with
  | none =>
    cases b with
    | none => exact ⟨0, by simp, by simp, by simp⟩
    | some b => exact ⟨b, by simp, by simp, by simp⟩
  | some a =>
    cases b with
    | none => exact ⟨a, by simp, by simp, by simp⟩
    | some b =>
      have h3 := of_decide_eq_false (show decide (b < a) = false from h)
      refine ⟨a, ?_, ?_, ?_⟩ <;> simp <;> omega
/-- the pairs of rounds that are told -/
def Good (p q : Pr) (b : Bd) (e : Pr) : Prop := Meet p q e ∧ Keeps b e
/-- what the span says of the pairs; the line's step is not (0, 0) -/
structure Spans (p q : Pr) (b : Bd) (l : Line) (s : Span) : Prop where
  good : ∀ e, Good p q b e ↔ ∃ k, InS s k ∧ e = after l.base l.step k
  any : ∃ k, InS s k
  lo : ∀ x, s.1 = some x → InS s x
  hi : ∀ x, s.2 = some x → InS s x
  step : l.step.1 ≠ 0 ∨ l.step.2 ≠ 0
theorem no_line {p q : Pr} {b : Bd} (h : p.1 ≠ 0 ∨ q.1 ≠ 0) (n : lineOf p q = none) (e : Pr) : ¬ Good p q b e := fun g => line_none h n e g.1
theorem no_span {p q : Pr} {b : Bd} {l : Line} (h : p.1 ≠ 0 ∨ q.1 ≠ 0) (n : lineOf p q = some l) (s : spanOf (limits l b) = none) (e : Pr) : ¬ Good p q b e := by
  rintro ⟨m, k⟩
  obtain ⟨i, rfl⟩ := ((line_some h n).1 e).mp m
  cases c : limits l b with
  | none => exact limits_none c i k
  | some x =>
    rw [c] at s
    have s : (if gap x.1.max? x.2.min? = true then none else some (x.1.max?, x.2.min?)) = (none : Option Span) := s
    by_cases g : gap x.1.max? x.2.min? = true
    · exact gap_no g i ((span_in x i).mp ((limits_some c i).mpr k))
    · rw [if_neg g] at s
      cases s
theorem the_span {p q : Pr} {b : Bd} {l : Line} {s : Span} (h : p.1 ≠ 0 ∨ q.1 ≠ 0) (n : lineOf p q = some l) (hs : spanOf (limits l b) = some s) : Spans p q b l s := by
  obtain ⟨L1, L2⟩ := line_some h n
  cases c : limits l b with
  | none =>
    rw [c] at hs
    cases hs
  | some x =>
    rw [c] at hs
    have hs : (if gap x.1.max? x.2.min? = true then none else some (x.1.max?, x.2.min?)) = some s := hs
    by_cases g : gap x.1.max? x.2.min? = true
    · rw [if_pos g] at hs
      cases hs
    · rw [if_neg g] at hs
      have hs := Option.some.inj hs
      subst hs
      have gf : gap x.1.max? x.2.min? = false := by
        cases e : gap x.1.max? x.2.min? with
        | true => exact absurd e g
        | false => rfl
      obtain ⟨k, y1, y2, y3⟩ := gap_yes gf
      refine ⟨fun e => ⟨?_, ?_⟩, ⟨k, y1⟩, y2, y3, L2⟩
      · rintro ⟨m, w⟩
        obtain ⟨i, rfl⟩ := (L1 e).mp m
        exact ⟨i, (span_in x i).mp ((limits_some c i).mpr w), rfl⟩
      · rintro ⟨i, w, rfl⟩
        exact ⟨(L1 _).mpr ⟨i, rfl⟩, (limits_some c i).mp ((span_in x i).mpr w)⟩
/-! ### the pair at an end -/
def Lx (u v : Pr) : Prop := u.1 < v.1 ∨ u.1 = v.1 ∧ u.2 < v.2
/-- whether the first of two slopes that is not 0 is above 0 -/
def up (a b : Int) : Bool := if a = 0 then decide (0 < b) else decide (0 < a)
def least (l : Line) (s : Span) (a b : Int) : Option Pr := ((if up a b = true then s.1 else s.2).map (after l.base l.step ·))
theorem mul_lt {a i j : Int} (h : 0 < a) (w : i < j) : a * i < a * j := Int.mul_lt_mul_of_pos_left w h
theorem Lx_grow {a b : Int} (A B i j : Int) (n : a ≠ 0 ∨ b ≠ 0) (h : up a b = true) (w : i < j) : Lx (A + a * i, B + b * i) (A + a * j, B + b * j) := by
  unfold Lx
  unfold up at h
  by_cases z : a = 0
  · rw [if_pos z] at h
    have h := of_decide_eq_true h
    right
    refine ⟨by show A + a * i = A + a * j; rw [z, Int.zero_mul, Int.zero_mul], ?_⟩
    have := mul_lt h w
    show B + b * i < B + b * j
    omega
  · rw [if_neg z] at h
    have h := of_decide_eq_true h
    left
    have := mul_lt h w
    show A + a * i < A + a * j
    omega
theorem Lx_fall {a b : Int} (A B i j : Int) (n : a ≠ 0 ∨ b ≠ 0) (h : up a b = false) (w : j < i) : Lx (A + a * i, B + b * i) (A + a * j, B + b * j) := by
  have h2 : up (-a) (-b) = true := by
    unfold up at h ⊢
    by_cases z : a = 0
    · rw [if_pos z] at h
      have h := of_decide_eq_false h
      rw [if_pos (by omega)]
      exact decide_eq_true (by omega)
    · rw [if_neg z] at h
      have h := of_decide_eq_false h
      rw [if_neg (by omega)]
      exact decide_eq_true (by omega)
  have u := Lx_grow (a := -a) (b := -b) A B (-i) (-j) (by omega) h2 (by omega)
  rw [Int.neg_mul_neg, Int.neg_mul_neg, Int.neg_mul_neg, Int.neg_mul_neg] at u
  exact u
def LeastBy (key : Pr → Pr) (S : Pr → Prop) (e : Pr) : Prop := S e ∧ ∀ x, S x → x = e ∨ Lx (key e) (key x)
theorem least_some {p q : Pr} {b : Bd} {l : Line} {s : Span} (P : Spans p q b l s) (key : Pr → Pr) (A B u v : Int) (n : u ≠ 0 ∨ v ≠ 0) (hk : ∀ k, key (after l.base l.step k) = (A + u * k, B + v * k)) {e : Pr} (h : least l s u v = some e) :
    LeastBy key (Good p q b) e := by
  unfold least at h
  cases c : up u v with
  | true =>
    rw [c, if_pos rfl] at h
    cases hs : s.1 with
    | none =>
      rw [hs] at h
      cases h
    | some a =>
      rw [hs] at h
      have h : after l.base l.step a = e := Option.some.inj h
      subst h
      refine ⟨(P.good _).mpr ⟨a, P.lo a hs, rfl⟩, fun x g => ?_⟩
      obtain ⟨k, i, rfl⟩ := (P.good x).mp g
      by_cases z : k = a
      · exact .inl (by rw [z])
      · right
        rw [hk, hk]
        exact Lx_grow A B a k n c (by have := i.1 a hs; omega)
  | false =>
    rw [c, if_neg (by decide)] at h
    cases hs : s.2 with
    | none =>
      rw [hs] at h
      cases h
    | some a =>
      rw [hs] at h
      have h : after l.base l.step a = e := Option.some.inj h
      subst h
      refine ⟨(P.good _).mpr ⟨a, P.hi a hs, rfl⟩, fun x g => ?_⟩
      obtain ⟨k, i, rfl⟩ := (P.good x).mp g
      by_cases z : k = a
      · exact .inl (by rw [z])
      · right
        rw [hk, hk]
        exact Lx_fall A B a k n c (by have := i.2 a hs; omega)
/-- no pair is the least one where that end is open -/
theorem least_none {p q : Pr} {b : Bd} {l : Line} {s : Span} (P : Spans p q b l s) (key : Pr → Pr) (A B u v : Int) (n : u ≠ 0 ∨ v ≠ 0) (hk : ∀ k, key (after l.base l.step k) = (A + u * k, B + v * k)) (h : least l s u v = none) :
    ∀ e, Good p q b e → ∃ x, Good p q b x ∧ Lx (key x) (key e) := by
  unfold least at h
  intro e g
  obtain ⟨k, i, rfl⟩ := (P.good e).mp g
  cases c : up u v with
  | true =>
    rw [c, if_pos rfl] at h
    have hs : s.1 = none := by
      cases hs : s.1 with
      | none => rfl
      | some a =>
        rw [hs] at h
        cases h
    refine ⟨_, (P.good _).mpr ⟨k - 1, ⟨fun a e => ?_, fun a e => ?_⟩, rfl⟩, ?_⟩
    · rw [hs] at e
      cases e
    · have := i.2 a e
      omega
    · rw [hk, hk]
      exact Lx_grow A B _ _ n c (by omega)
  | false =>
    rw [c, if_neg (by decide)] at h
    have hs : s.2 = none := by
      cases hs : s.2 with
      | none => rfl
      | some a =>
        rw [hs] at h
        cases h
    refine ⟨_, (P.good _).mpr ⟨k + 1, ⟨fun a e => ?_, fun a e => ?_⟩, rfl⟩, ?_⟩
    · have := i.1 a e
      omega
    · rw [hs] at e
      cases e
    · rw [hk, hk]
      exact Lx_fall A B _ _ n c (by omega)
end Met
namespace Met
/-! ### what is told of meetings, and that it is the only thing that can be told -/
theorem deep (A u c k0 : Int) (h : 0 < u) : ∃ k, k ≤ k0 ∧ A + u * k < c := by
  refine ⟨min k0 (-(A.natAbs + c.natAbs + 1 : Int)), by omega, ?_⟩
  generalize hk : min k0 (-(A.natAbs + c.natAbs + 1 : Int)) = k
  have k1 : k ≤ -(A.natAbs + c.natAbs + 1 : Int) := by omega
  have m : u * k ≤ 1 * k := by
    have : (u - 1) * k ≤ 0 := Int.mul_nonpos_of_nonneg_of_nonpos (by omega) (by omega)
    have e : u * k = (u - 1) * k + k := by grind
    omega
  omega
theorem high (A u c k0 : Int) (h : u < 0) : ∃ k, k0 ≤ k ∧ A + u * k < c := by
  obtain ⟨k, h1, h2⟩ := deep A (-u) c (-k0) (by omega)
  refine ⟨-k, by omega, ?_⟩
  rw [Int.neg_mul] at h2
  rw [Int.mul_neg]
  omega
theorem least_there {p q : Pr} {b : Bd} {l : Line} {s : Span} (P : Spans p q b l s) (key : Pr → Pr) (A B u v : Int) (n : u ≠ 0 ∨ v ≠ 0) (hk : ∀ k, key (after l.base l.step k) = (A + u * k, B + v * k))
    (b1 : u ≠ 0 → ∃ c, ∀ e, Good p q b e → c ≤ (key e).1) (b2 : u = 0 → ∃ c, ∀ e, Good p q b e → c ≤ (key e).2) : ∃ e, least l s u v = some e := by
  unfold least
  obtain ⟨k0, i0⟩ := P.any
  cases c : up u v with
  | true =>
    rw [if_pos rfl]
    cases hs : s.1 with
    | some a => exact ⟨_, rfl⟩
    | none =>
      exfalso
      have all : ∀ k, k ≤ k0 → Good p q b (after l.base l.step k) := fun k w => (P.good _).mpr ⟨k, ⟨fun a e => (by rw [hs] at e; cases e), fun a e => by have := i0.2 a e; omega⟩, rfl⟩
      unfold up at c
      by_cases z : u = 0
      · rw [if_pos z] at c
        obtain ⟨m, hm⟩ := b2 z
        obtain ⟨k, h1, h2⟩ := deep B v m k0 (of_decide_eq_true c)
        have := hm _ (all k h1)
        rw [hk] at this
        exact absurd h2 (Int.not_lt.mpr this)
      · rw [if_neg z] at c
        obtain ⟨m, hm⟩ := b1 z
        obtain ⟨k, h1, h2⟩ := deep A u m k0 (of_decide_eq_true c)
        have := hm _ (all k h1)
        rw [hk] at this
        exact absurd h2 (Int.not_lt.mpr this)
  | false =>
    rw [if_neg (by decide)]
    cases hs : s.2 with
    | some a => exact ⟨_, rfl⟩
    | none =>
      exfalso
      have all : ∀ k, k0 ≤ k → Good p q b (after l.base l.step k) := fun k w => (P.good _).mpr ⟨k, ⟨fun a e => by have := i0.1 a e; omega, fun a e => by rw [hs] at e; cases e⟩, rfl⟩
      unfold up at c
      by_cases z : u = 0
      · rw [if_pos z] at c
        have c := of_decide_eq_false c
        obtain ⟨m, hm⟩ := b2 z
        obtain ⟨k, h1, h2⟩ := high B v m k0 (by omega)
        have := hm _ (all k h1)
        rw [hk] at this
        exact absurd h2 (Int.not_lt.mpr this)
      · rw [if_neg z] at c
        have c := of_decide_eq_false c
        obtain ⟨m, hm⟩ := b1 z
        obtain ⟨k, h1, h2⟩ := high A u m k0 (by omega)
        have := hm _ (all k h1)
        rw [hk] at this
        exact absurd h2 (Int.not_lt.mpr this)
def kNear (e : Pr) : Pr := (e.2 - e.1, e.2)
def kSoon (e : Pr) : Pr := (e.2, -e.1)
def kLate (e : Pr) : Pr := (-e.1, e.2)
def kEach (e : Pr) : Pr := (e.2, e.1)
theorem kNear_at (l : Line) (k : Int) : kNear (after l.base l.step k) = (l.base.2 - l.base.1 + (l.step.2 - l.step.1) * k, l.base.2 + l.step.2 * k) := by
  refine Prod.ext ?_ rfl
  show l.base.2 + l.step.2 * k - (l.base.1 + l.step.1 * k) = l.base.2 - l.base.1 + (l.step.2 - l.step.1) * k
  grind
theorem kSoon_at (l : Line) (k : Int) : kSoon (after l.base l.step k) = (l.base.2 + l.step.2 * k, -l.base.1 + -l.step.1 * k) := by
  refine Prod.ext rfl ?_
  show -(l.base.1 + l.step.1 * k) = -l.base.1 + -l.step.1 * k
  grind
theorem kLate_at (l : Line) (k : Int) : kLate (after l.base l.step k) = (-l.base.1 + -l.step.1 * k, l.base.2 + l.step.2 * k) := by
  refine Prod.ext ?_ rfl
  show -(l.base.1 + l.step.1 * k) = -l.base.1 + -l.step.1 * k
  grind
theorem kEach_at (l : Line) (k : Int) : kEach (after l.base l.step k) = (l.base.2 + l.step.2 * k, l.base.1 + l.step.1 * k) := rfl
/-- the pairs in their order: which step, from where, up to where -/
structure Row where
  st : Pr
  lo : Int
  hi : Option Int
def rowOf (l : Line) (s : Span) : Row :=
  if up l.step.2 l.step.1 = true then ⟨l.step, s.1.getD 0, s.2⟩ else ⟨(-l.step.1, -l.step.2), -(s.2.getD 0), s.1.map (- ·)⟩
def within (hi : Option Int) (at' : Int) : Bool := match hi with | none => true | some h => decide (at' ≤ h)
def rowAt (l : Line) (r : Row) (n : Nat) : Option Pr := if within r.hi (r.lo + n) = true then some (after l.base r.st (r.lo + n)) else none
structure Told where
  near : Option Pr
  soon : Option Pr
  late : Option Pr
  amount : Option Int
  nth : Nat → Option Pr
def nought : Told := ⟨none, none, none, some 0, fun _ => none⟩
def amountOf (s : Span) : Option Int := match s.1, s.2 with | some a, some b => some (b - a + 1) | _, _ => none
def spanTold (l : Line) (s : Span) : Told :=
  ⟨least l s (l.step.2 - l.step.1) l.step.2, least l s l.step.2 (-l.step.1), least l s (-l.step.1) l.step.2, amountOf s, rowAt l (rowOf l s)⟩
def told (p q : Pr) (b : Bd) : Told :=
  match lineOf p q with
  | none => nought
  | some l => match spanOf (limits l b) with
    | none => nought
    | some s => spanTold l s
structure Each (S : Pr → Prop) (f : Nat → Option Pr) : Prop where
  good : ∀ n e, f n = some e → S e
  all : ∀ e, S e → ∃ n, f n = some e
  lt : ∀ m n e x, m < n → f m = some e → f n = some x → Lx (kEach e) (kEach x)
  down : ∀ n, f n = none → f (n + 1) = none
structure Spec (S : Pr → Prop) (t : Told) : Prop where
  near : ∀ e, t.near = some e → LeastBy kNear S e
  near0 : t.near = none → ∀ e, ¬ S e
  soon : ∀ e, t.soon = some e → LeastBy kSoon S e
  soon0 : t.soon = none → ∀ e, ¬ S e
  late : ∀ e, t.late = some e → LeastBy kLate S e
  late0 : t.late = none → ∀ e, S e → ∃ x, S x ∧ Lx (kLate x) (kLate e)
  each : Each S t.nth
  amount : ∀ m, t.amount = some m → 0 ≤ m ∧ ∀ n : Nat, (t.nth n).isSome = true ↔ (n : Int) < m
  amount0 : t.amount = none → ∀ n, (t.nth n).isSome = true
theorem nought_spec {S : Pr → Prop} (h : ∀ e, ¬ S e) : Spec S nought := by
  refine ⟨nofun, fun _ => h, nofun, fun _ => h, nofun, fun _ e g => absurd g (h e), ⟨nofun, fun e g => absurd g (h e), nofun, fun _ _ => rfl⟩, fun m e => ?_, nofun⟩
  have e : (0 : Int) = m := Option.some.inj e
  subst e
  exact ⟨Int.le_refl _, fun n => ⟨nofun, fun w => absurd w (by omega)⟩⟩
theorem row_ok {p q : Pr} {b : Bd} {l : Line} {s : Span} (P : Spans p q b l s) :
    (∀ k, (∃ i, InS s i ∧ after l.base l.step i = after l.base (rowOf l s).st k) ↔ (rowOf l s).lo ≤ k ∧ within (rowOf l s).hi k = true) ∧ up (rowOf l s).st.2 (rowOf l s).st.1 = true ∧ ((rowOf l s).st.2 ≠ 0 ∨ (rowOf l s).st.1 ≠ 0) ∧
    (∀ k, ∃ i, after l.base l.step k = after l.base (rowOf l s).st i ∧ (InS s k ↔ (rowOf l s).lo ≤ i ∧ within (rowOf l s).hi i = true)) ∧ (∀ n : Nat, within (rowOf l s).hi ((rowOf l s).lo + n) = true ↔ ∀ m, amountOf s = some m → (n : Int) < m) ∧
    (∀ m, amountOf s = some m → 0 ≤ m) := by
  have inj : ∀ (st : Pr) i j, (st.2 ≠ 0 ∨ st.1 ≠ 0) → after l.base st i = after l.base st j → i = j := by
    intro st i j h e
    have e1 : l.base.1 + st.1 * i = l.base.1 + st.1 * j := congrArg Prod.fst e
    have e2 : l.base.2 + st.2 * i = l.base.2 + st.2 * j := congrArg Prod.snd e
    rcases h with h | h
    · exact Int.eq_of_mul_eq_mul_left h (by omega)
    · exact Int.eq_of_mul_eq_mul_left h (by omega)
  have there := least_there P kEach l.base.2 l.base.1 l.step.2 l.step.1 (P.step.symm) (kEach_at l)
    (fun _ => ⟨b.first + b.low, fun e g => by have := g.2.1; have := g.2.2.1; show _ ≤ e.2; omega⟩) (fun _ => ⟨b.first, fun e g => g.2.1⟩)
  obtain ⟨e0, he0⟩ := there
  unfold least at he0
  obtain ⟨k0, i0⟩ := P.any
  have aff : ∀ k, after l.base (-l.step.1, -l.step.2) k = after l.base l.step (-k) := fun k => by
    refine Prod.ext ?_ ?_
    · show l.base.1 + -l.step.1 * k = l.base.1 + l.step.1 * -k
      grind
    · show l.base.2 + -l.step.2 * k = l.base.2 + l.step.2 * -k
      grind
  unfold rowOf
  cases c : up l.step.2 l.step.1 with
  | true =>
    rw [c, if_pos rfl] at he0
    rw [if_pos rfl]
    cases hs : s.1 with
    | none =>
      rw [hs] at he0
      cases he0
    | some a =>
      have iff : ∀ k, InS s k ↔ a ≤ k ∧ within s.2 k = true := fun k => by
        unfold InS within
        rw [hs]
        cases s.2 <;> simp
      have ia := (iff k0).mp i0
      refine ⟨fun k => ⟨?_, fun w => ⟨k, (iff k).mpr w, rfl⟩⟩, c, P.step.symm, fun k => ⟨k, rfl, iff k⟩, fun n => ?_, fun m e => ?_⟩
      · rintro ⟨i, w, e⟩
        have e := inj _ _ _ P.step.symm e
        subst e
        exact (iff i).mp w
      · show within s.2 (a + n) = true ↔ _
        unfold within amountOf
        rw [hs]
        cases s.2 with
        | none => simp
        | some b =>
          simp
          omega
      · have i2 := i0.2
        have i1 := i0.1
        unfold amountOf at e
        rw [hs] at e
        cases h2 : s.2 with
        | none =>
          rw [h2] at e
          cases e
        | some d =>
          rw [h2] at e
          have e : d - a + 1 = m := Option.some.inj e
          have := i1 a hs
          have := i2 d h2
          omega
  | false =>
    rw [c, if_neg (by decide)] at he0
    rw [if_neg (by decide)]
    cases hs : s.2 with
    | none =>
      rw [hs] at he0
      cases he0
    | some a =>
      have iff : ∀ k, InS s (-k) ↔ -a ≤ k ∧ within (s.1.map (- ·)) k = true := fun k => by
        unfold InS within
        rw [hs]
        cases s.1 <;> simp <;> omega
      have upn : up (-l.step.2) (-l.step.1) = true := by
        have n := P.step
        unfold up at c ⊢
        by_cases z : l.step.2 = 0
        · rw [if_pos z] at c
          have c := of_decide_eq_false c
          rw [if_pos (by omega)]
          exact decide_eq_true (by omega)
        · rw [if_neg z] at c
          have c := of_decide_eq_false c
          rw [if_neg (by omega)]
          exact decide_eq_true (by omega)
      refine ⟨fun k => ⟨?_, fun w => ⟨-k, (iff k).mpr w, (aff k).symm⟩⟩, upn, ?_, fun k => ⟨-k, ?_, ?_⟩, fun n => ?_, fun m e => ?_⟩
      · rintro ⟨i, w, e⟩
        have e : after l.base l.step i = after l.base (-l.step.1, -l.step.2) k := e
        rw [aff] at e
        have e := inj _ _ _ P.step.symm e
        subst e
        exact (iff k).mp w
      · have := P.step
        show -l.step.2 ≠ 0 ∨ -l.step.1 ≠ 0
        omega
      · show _ = after l.base (-l.step.1, -l.step.2) (-k)
        rw [aff, Int.neg_neg]
      · have := iff (-k)
        rw [Int.neg_neg] at this
        exact this
      · show within (s.1.map (- ·)) (-a + n) = true ↔ _
        unfold within amountOf
        rw [hs]
        cases s.1 with
        | none => simp
        | some b =>
          simp
          omega
      · have i2 := i0.2
        have i1 := i0.1
        unfold amountOf at e
        rw [hs] at e
        cases h2 : s.1 with
        | none =>
          rw [h2] at e
          cases e
        | some d =>
          rw [h2] at e
          have e : a - d + 1 = m := Option.some.inj e
          have := i1 d h2
          have := i2 a hs
          omega
theorem span_spec {p q : Pr} {b : Bd} {l : Line} {s : Span} (P : Spans p q b l s) : Spec (Good p q b) (spanTold l s) := by
  have n1 : l.step.2 - l.step.1 ≠ 0 ∨ l.step.2 ≠ 0 := by have := P.step; omega
  have n2 : l.step.2 ≠ 0 ∨ -l.step.1 ≠ 0 := by have := P.step; omega
  have n3 : -l.step.1 ≠ 0 ∨ l.step.2 ≠ 0 := by have := P.step; omega
  obtain ⟨r1, r2, r3, r4, r5, r6⟩ := row_ok P
  have some_of : ∀ n e, rowAt l (rowOf l s) n = some e → within (rowOf l s).hi ((rowOf l s).lo + n) = true ∧ e = after l.base (rowOf l s).st ((rowOf l s).lo + n) := fun n e h => by
    unfold rowAt at h
    by_cases c : within (rowOf l s).hi ((rowOf l s).lo + n) = true
    · rw [if_pos c] at h
      exact ⟨c, (Option.some.inj h).symm⟩
    · rw [if_neg c] at h
      cases h
  have is_some : ∀ n, (rowAt l (rowOf l s) n).isSome = true ↔ within (rowOf l s).hi ((rowOf l s).lo + n) = true := fun n => by
    unfold rowAt
    by_cases c : within (rowOf l s).hi ((rowOf l s).lo + n) = true
    · rw [if_pos c]
      exact ⟨fun _ => c, fun _ => rfl⟩
    · rw [if_neg c]
      exact ⟨fun h => (by cases h), fun h => absurd h c⟩
  refine ⟨fun e h => least_some P kNear _ _ _ _ n1 (kNear_at l) h, fun h => ?_, fun e h => least_some P kSoon _ _ _ _ n2 (kSoon_at l) h, fun h => ?_, fun e h => least_some P kLate _ _ _ _ n3 (kLate_at l) h,
    fun h => least_none P kLate _ _ _ _ n3 (kLate_at l) h, ⟨fun n e h => ?_, fun e g => ?_, fun m n e x w h1 h2 => ?_, fun n h => ?_⟩, fun m e => ?_, fun e n => ?_⟩
  · obtain ⟨e, he⟩ := least_there P kNear _ _ _ _ n1 (kNear_at l) (fun _ => ⟨b.low, fun e g => g.2.2.1⟩) (fun _ => ⟨b.first + b.low, fun e g => by have := g.2.1; have := g.2.2.1; show _ ≤ e.2; omega⟩)
    exact absurd (he.symm.trans h) nofun
  · obtain ⟨e, he⟩ := least_there P kSoon _ _ _ _ n2 (kSoon_at l) (fun _ => ⟨b.first + b.low, fun e g => by have := g.2.1; have := g.2.2.1; show _ ≤ e.2; omega⟩)
      (fun z => ⟨b.low - l.base.2, fun e g => by
        obtain ⟨k, i, rfl⟩ := (P.good e).mp g
        have u := g.2.2.1
        have u2 : (after l.base l.step k).2 = l.base.2 + l.step.2 * k := rfl
        rw [z, Int.zero_mul] at u2
        show b.low - l.base.2 ≤ -(after l.base l.step k).1
        omega⟩)
    exact absurd (he.symm.trans h) nofun
  · obtain ⟨c, rfl⟩ := some_of n e h
    obtain ⟨i, w, e2⟩ := (r1 _).mpr ⟨by omega, c⟩
    exact (P.good _).mpr ⟨i, w, e2.symm⟩
  · obtain ⟨k, i, rfl⟩ := (P.good e).mp g
    obtain ⟨j, e2, w⟩ := r4 k
    obtain ⟨w1, w2⟩ := w.mp i
    refine ⟨(j - (rowOf l s).lo).toNat, ?_⟩
    show rowAt l (rowOf l s) _ = _
    have z : (rowOf l s).lo + ((j - (rowOf l s).lo).toNat : Int) = j := by omega
    unfold rowAt
    rw [z, if_pos w2, e2]
  · obtain ⟨c1, rfl⟩ := some_of m e h1
    obtain ⟨c2, rfl⟩ := some_of n x h2
    exact Lx_grow l.base.2 l.base.1 _ _ r3 r2 (by omega)
  · have c : ¬ (rowAt l (rowOf l s) n).isSome = true := by
      rw [show rowAt l (rowOf l s) n = none from h]
      decide
    rw [is_some, r5] at c
    have c2 : ¬ (rowAt l (rowOf l s) (n + 1)).isSome = true := by
      rw [is_some, r5]
      intro w
      exact c fun m e => by have := w m e; omega
    show rowAt l (rowOf l s) (n + 1) = none
    cases z : rowAt l (rowOf l s) (n + 1) with
    | none => rfl
    | some y =>
      rw [z] at c2
      exact absurd rfl c2
  · refine ⟨r6 m e, fun n => ?_⟩
    show (rowAt l (rowOf l s) n).isSome = true ↔ _
    rw [is_some, r5]
    exact ⟨fun w => w m e, fun w m' e' => by
      have : m = m' := Option.some.inj (e.symm.trans e')
      omega⟩
  · show (rowAt l (rowOf l s) n).isSome = true
    rw [is_some, r5]
    intro m e'
    exact absurd (e.symm.trans e') nofun
theorem told_spec {p q : Pr} (b : Bd) (h : p.1 ≠ 0 ∨ q.1 ≠ 0) : Spec (Good p q b) (told p q b) := by
  unfold told
  cases n : lineOf p q with
  | none => exact nought_spec (no_line h n)
  | some l =>
    cases s : spanOf (limits l b) with
    | none =>
      simp only [s]
      exact nought_spec (no_span h n s)
    | some sp =>
      simp only [s]
      exact span_spec (the_span h n s)
end Met
namespace Met
/-! ### the greatest common divisor by turns of Euclid; the step of the line -/
theorem divOf_gcd {a b : Int} (h : a ≠ 0 ∨ b ≠ 0) : (divOf a b).g = ((Nat.gcd a.natAbs b.natAbs : Nat) : Int) := by
  obtain ⟨pos, eq, da, db⟩ := divOf_ok h
  generalize divOf a b = d at pos eq da db
  have h1 : d.g.natAbs ∣ Nat.gcd a.natAbs b.natAbs := Nat.dvd_gcd (Int.natAbs_dvd_natAbs.mpr da) (Int.natAbs_dvd_natAbs.mpr db)
  have h2 : ((Nat.gcd a.natAbs b.natAbs : Nat) : Int) ∣ d.g := by
    rw [← eq]
    refine Int.dvd_add (Int.dvd_mul_of_dvd_left ?_) (Int.dvd_mul_of_dvd_left ?_)
    · exact Int.ofNat_dvd_left.mpr (Nat.gcd_dvd_left _ _)
    · exact Int.ofNat_dvd_left.mpr (Nat.gcd_dvd_right _ _)
  have h3 : Nat.gcd a.natAbs b.natAbs ∣ d.g.natAbs := Int.ofNat_dvd_left.mp h2
  have h4 := Nat.dvd_antisymm h1 h3
  omega
/-- behind i turns of Euclid -/
structure EU (a b i x y : Nat) : Prop where
  gcd : Nat.gcd x y = Nat.gcd a b
  less : 1 ≤ i → y < x ∧ x * y * 2 ^ (i - 1) ≤ a * b
theorem EU.start (a b : Nat) : EU a b 0 a b := ⟨rfl, fun h => absurd h (by decide)⟩
theorem EU.turn {a b i x y : Nat} (e : EU a b i x y) (h0 : i = 0 → x = a ∧ y = b) (h : y ≠ 0) : EU a b (i + 1) y (x % y) := by
  have lt := Nat.mod_lt x (Nat.pos_of_ne_zero h)
  refine ⟨?_, fun _ => ⟨lt, ?_⟩⟩
  · rw [← e.gcd, Nat.gcd_comm x y, Nat.gcd_rec y x, Nat.gcd_comm]
  · cases i with
    | zero =>
      obtain ⟨rfl, rfl⟩ := h0 rfl
      show y * (x % y) * 1 ≤ x * y
      rw [Nat.mul_one, Nat.mul_comm x y]
      exact Nat.mul_le_mul_left y (Nat.mod_le x y)
    | succ i =>
      obtain ⟨l, le⟩ := e.less (Nat.le_add_left _ _)
      show y * (x % y) * 2 ^ (i + 1) ≤ a * b
      have e1 : i + 1 - 1 = i := rfl
      rw [e1] at le
      have two : x % y * 2 ≤ x := by
        have := Nat.mod_add_div x y
        have d1 : 1 ≤ x / y := (Nat.one_le_div_iff (Nat.pos_of_ne_zero h)).mpr (Nat.le_of_lt l)
        have d2 : y * 1 ≤ y * (x / y) := Nat.mul_le_mul_left y d1
        omega
      have m : y * (x % y) * 2 ^ (i + 1) = x % y * 2 * y * 2 ^ i := by
        rw [Nat.pow_succ]
        grind
      rw [m]
      exact Nat.le_trans (Nat.mul_le_mul_right _ (Nat.mul_le_mul_right _ two)) le
theorem EU.done {a b x : Nat} {i : Nat} (e : EU a b i x 0) : x = Nat.gcd a b := by
  rw [← e.gcd, Nat.gcd_zero_right]
theorem EU.late {a b x y : Nat} (e : EU a b 2000 x y) (h : a * b < 2 ^ 1999) : x = Nat.gcd a b := by
  obtain ⟨l, le⟩ := e.less (by decide)
  have z : x * y = 0 := by
    by_cases c : x * y = 0
    · exact c
    · have : 1 * 2 ^ 1999 ≤ x * y * 2 ^ 1999 := Nat.mul_le_mul_right _ (Nat.pos_of_ne_zero c)
      have le : x * y * 2 ^ 1999 ≤ a * b := le
      omega
  have y0 : y = 0 := by
    rcases Nat.mul_eq_zero.mp z with q | q
    · omega
    · exact q
  rw [y0] at e
  exact e.done
def stepOf (p q : Pr) : Pr := (q.1 / (divOf p.1 q.1).g, p.1 / (divOf p.1 q.1).g)
theorem line_step {p q : Pr} {l : Line} (h : lineOf p q = some l) : l.step = stepOf p q := by
  unfold lineOf at h
  by_cases c : (q.2 - p.2) % (divOf p.1 q.1).g ≠ 0
  · simp only [if_pos c] at h
    cases h
  · simp only [if_neg c] at h
    have h := Option.some.inj h
    subst h
    rfl
theorem meet_line {p q e : Pr} (h : p.1 ≠ 0 ∨ q.1 ≠ 0) (m : Meet p q e) : ∃ l, lineOf p q = some l := by
  cases c : lineOf p q with
  | none => exact absurd m (line_none h c e)
  | some l => exact ⟨l, rfl⟩
/-! ### the nearest pair, judged -/
def optLe (o : Option Int) (x : Int) : Bool := match o with | none => true | some h => decide (x ≤ h)
def optLt (o : Option Int) (x : Int) : Bool := match o with | none => true | some h => decide (x < h)
def meetB (p q e : Pr) : Bool := decide (p.1 * e.1 + p.2 = q.1 * e.2 + q.2)
def goodB (p q : Pr) (b : Bd) (e : Pr) : Bool := (meetB p q e && decide (b.first ≤ e.1) && decide (b.low ≤ e.2 - e.1)) && (optLe b.high (e.2 - e.1) && optLt b.rounds e.2)
theorem goodB_iff (p q : Pr) (b : Bd) (e : Pr) : goodB p q b e = true ↔ Good p q b e := by
  obtain ⟨low, high, first, rounds⟩ := b
  unfold goodB meetB Good Meet Keeps optLe optLt
  cases high <;> cases rounds <;> simp <;> grind
def wayOf (s : Pr) : Int := if s.2 ≠ s.1 then s.2 - s.1 else s.2
def lawNear (p q : Pr) (b : Bd) (e : Pr) : Bool := goodB p q b e && !goodB p q b (after e (stepOf p q) (if 0 < wayOf (stepOf p q) then -1 else 1))
theorem way_up (s : Pr) : up (s.2 - s.1) s.2 = decide (0 < wayOf s) := by
  unfold up wayOf
  by_cases c : s.2 = s.1
  · rw [if_pos (by omega), if_neg (by omega)]
  · rw [if_neg (by omega), if_pos c]
theorem after_after (e s : Pr) (i j : Int) : after (after e s i) s j = after e s (i + j) := by
  refine Prod.ext ?_ ?_
  · show e.1 + s.1 * i + s.1 * j = e.1 + s.1 * (i + j)
    grind
  · show e.2 + s.2 * i + s.2 * j = e.2 + s.2 * (i + j)
    grind
theorem Lx_no (u : Pr) : ¬ Lx u u := by
  unfold Lx
  omega
theorem Lx_as {u v : Pr} (h : Lx u v) : ¬ Lx v u := by
  unfold Lx at *
  omega
theorem lx_near {l : Line} (hs : l.step.1 ≠ 0 ∨ l.step.2 ≠ 0) (i j : Int) :
    (up (l.step.2 - l.step.1) l.step.2 = true → i < j → Lx (kNear (after l.base l.step i)) (kNear (after l.base l.step j))) ∧
    (up (l.step.2 - l.step.1) l.step.2 = false → j < i → Lx (kNear (after l.base l.step i)) (kNear (after l.base l.step j))) := by
  have n : l.step.2 - l.step.1 ≠ 0 ∨ l.step.2 ≠ 0 := by omega
  rw [kNear_at, kNear_at]
  exact ⟨fun u w => Lx_grow _ _ _ _ n u w, fun u w => Lx_fall _ _ _ _ n u w⟩
theorem near_iff {p q : Pr} (b : Bd) (e : Pr) (h : p.1 ≠ 0 ∨ q.1 ≠ 0) : lawNear p q b e = true ↔ (told p q b).near = some e := by
  have T := told_spec (p := p) (q := q) b h
  unfold lawNear
  rw [Bool.and_eq_true, Bool.not_eq_true', goodB_iff]
  have fls : ∀ x, goodB p q b x = false ↔ ¬ Good p q b x := fun x => by
    rw [← goodB_iff]
    simp
  rw [fls]
  constructor
  · rintro ⟨g, ng⟩
    cases hn : (told p q b).near with
    | none => exact absurd g (T.near0 hn e)
    | some n =>
      obtain ⟨gn, le⟩ := T.near n hn
      rcases le e g with w | w
      · rw [w]
      · exfalso
        obtain ⟨l, hl⟩ := meet_line h g.1
        obtain ⟨L1, L2⟩ := line_some h hl
        rw [← line_step hl] at ng
        obtain ⟨k, rfl⟩ := (L1 e).mp g.1
        obtain ⟨kn, rfl⟩ := (L1 n).mp gn.1
        have conv : ∀ m, (kn ≤ m ∧ m ≤ k) ∨ (k ≤ m ∧ m ≤ kn) → Good p q b (after l.base l.step m) := fun m hm => by
          refine ⟨(L1 _).mpr ⟨m, rfl⟩, ?_⟩
          cases c : limits l b with
          | none => exact absurd g.2 (limits_none c k)
          | some x =>
            rw [← limits_some c]
            have i1 := (limits_some c k).mpr g.2
            have i2 := (limits_some c kn).mpr gn.2
            refine ⟨fun u hu => ?_, fun u hu => ?_⟩
            · have := i1.1 u hu
              have := i2.1 u hu
              omega
            · have := i1.2 u hu
              have := i2.2 u hu
              omega
        have U := way_up l.step
        cases cu : up (l.step.2 - l.step.1) l.step.2 with
        | true =>
          rw [cu] at U
          have U := of_decide_eq_true U.symm
          rw [if_pos U, after_after] at ng
          have lt : kn < k := by
            rcases Int.lt_trichotomy kn k with z | z | z
            · exact z
            · rw [z] at w
              exact absurd w (Lx_no _)
            · exact absurd ((lx_near L2 k kn).1 cu z) (Lx_as w)
          exact ng (conv _ (by omega))
        | false =>
          rw [cu] at U
          have U := of_decide_eq_false U.symm
          rw [if_neg U, after_after] at ng
          have lt : k < kn := by
            rcases Int.lt_trichotomy k kn with z | z | z
            · exact z
            · rw [z] at w
              exact absurd w (Lx_no _)
            · exact absurd ((lx_near L2 k kn).2 cu z) (Lx_as w)
          exact ng (conv _ (by omega))
  · intro hn
    obtain ⟨g, le⟩ := T.near e hn
    refine ⟨g, fun g2 => ?_⟩
    obtain ⟨l, hl⟩ := meet_line h g.1
    obtain ⟨L1, L2⟩ := line_some h hl
    rw [← line_step hl] at g2
    obtain ⟨k, rfl⟩ := (L1 e).mp g.1
    have U := way_up l.step
    cases cu : up (l.step.2 - l.step.1) l.step.2 with
    | true =>
      rw [cu] at U
      have U := of_decide_eq_true U.symm
      rw [if_pos U, after_after] at g2
      have w := (lx_near L2 (k + -1) k).1 cu (by omega)
      rcases le _ g2 with z | z
      · rw [z] at w
        exact Lx_no _ w
      · exact Lx_as w z
    | false =>
      rw [cu] at U
      have U := of_decide_eq_false U.symm
      rw [if_neg U, after_after] at g2
      have w := (lx_near L2 (k + 1) k).2 cu (by omega)
      rcases le _ g2 with z | z
      · rw [z] at w
        exact Lx_no _ w
      · exact Lx_as w z
end Met
namespace Met
/-! ### gaps, the modulus, the paper -/
def lackB (zs : List (Int × Int)) : Bool := zs.any fun x => decide (x.1 < 0) && decide (x.1 ≤ x.2)
def lackA (zs : List (Int × Int)) : Bool := zs.any fun x => decide (x.2 < 0) && decide (x.2 ≤ x.1)
def pairsOf (p q : Pr) (b : Bd) (e : Pr) : List (Int × Int) := (slacks e b).zip (slacks (after e (stepOf p q) 1) b)
def gapB (p q : Pr) (b : Bd) (e : Pr) : Bool := meetB p q e && (lackB (pairsOf p q b e) && lackA (pairsOf p q b e))
/-- by the slopes -/
def spares (p q : Pr) (b : Bd) (e : Pr) : List (Int × Int) :=
  [(e.1 - b.first, (stepOf p q).1), (e.2 - e.1 - b.low, (stepOf p q).2 - (stepOf p q).1)] ++ (match b.high with | some h => [(h - e.2 + e.1, (stepOf p q).1 - (stepOf p q).2)] | none => []) ++
    (match b.rounds with | some r => [(r - 1 - e.2, -(stepOf p q).2)] | none => [])
def slopeB (zs : List (Int × Int)) : Bool := zs.any fun x => decide (x.1 < 0) && decide (0 ≤ x.2)
def slopeA (zs : List (Int × Int)) : Bool := zs.any fun x => decide (x.1 + x.2 < 0) && decide (x.2 ≤ 0)
def lawGap (p q : Pr) (b : Bd) (e : Pr) : Bool := meetB p q e && (slopeB (spares p q b e) && slopeA (spares p q b e))
theorem spares_eq (p q : Pr) (b : Bd) (e : Pr) : pairsOf p q b e = (spares p q b e).map fun x => (x.1, x.1 + x.2) := by
  obtain ⟨low, high, first, rounds⟩ := b
  obtain ⟨e1, e2⟩ := e
  unfold pairsOf spares slacks after
  generalize stepOf p q = s
  cases high <;> cases rounds <;> simp [Prod.ext_iff] <;> omega
theorem lackB_map (zs : List (Int × Int)) : lackB (zs.map fun x => (x.1, x.1 + x.2)) = slopeB zs := by
  unfold lackB slopeB
  rw [List.any_map]
  congr 1
  funext x
  have : decide (x.1 ≤ x.1 + x.2) = decide (0 ≤ x.2) := decide_eq_decide.mpr (by omega)
  simp only [Function.comp, this]
theorem lackA_map (zs : List (Int × Int)) : lackA (zs.map fun x => (x.1, x.1 + x.2)) = slopeA zs := by
  unfold lackA slopeA
  rw [List.any_map]
  congr 1
  funext x
  have : decide (x.1 + x.2 ≤ x.1) = decide (x.2 ≤ 0) := decide_eq_decide.mpr (by omega)
  simp only [Function.comp, this]
theorem gap_eq (p q : Pr) (b : Bd) (e : Pr) : lawGap p q b e = gapB p q b e := by
  unfold lawGap gapB
  rw [spares_eq, lackB_map, lackA_map]
def modB (p q : Pr) (m : Int) : Bool := decide (2 ≤ m) && (decide (p.1.fmod m = 0) && (decide (q.1.fmod m = 0) && decide ((q.2 - p.2).fmod m ≠ 0)))
/-! the paper -/
inductive PP
  | modulus (g : Int)
  | near (e : Pr)
  | gap (e : Pr)
def gapAt (l : Line) : Option (List Int × List Int) → Pr
  | none => after l.base l.step 0
  | some x => after l.base l.step (x.1.max?.getD 0 - 1)
def paperOf (p q : Pr) (b : Bd) : PP :=
  match lineOf p q with
  | none => .modulus (divOf p.1 q.1).g
  | some l => match spanOf (limits l b) with
    | none => .gap (gapAt l (limits l b))
    | some s => .near ((least l s (l.step.2 - l.step.1) l.step.2).getD (0, 0))
/-- the values that are judged -/
inductive Hd
  | near
  | modulus
  | gap
  | other
deriving DecidableEq
inductive PV
  | no
  | two (h : Hd) (x : Option Int)
  | three (h : Hd) (x y : Int)
def judge (p q : Pr) (b : Bd) : PV → Bool
  | .no => false
  | .two .modulus (some m) => modB p q m
  | .two _ _ => false
  | .three .near x y => decide ((told p q b).near = some (x, y))
  | .three .gap x y => gapB p q b (x, y)
  | .three _ _ _ => false
def PP.value : PP → PV
  | .modulus g => .two .modulus (some g)
  | .near e => .three .near e.1 e.2
  | .gap e => .three .gap e.1 e.2
theorem paper_mod {p q : Pr} (h : p.1 ≠ 0 ∨ q.1 ≠ 0) (n : lineOf p q = none) : modB p q (divOf p.1 q.1).g = true := by
  have D := divOf_ok h
  unfold lineOf at n
  generalize divOf p.1 q.1 = d at D n
  obtain ⟨pos, _, da, db⟩ := D
  by_cases c : (q.2 - p.2) % d.g ≠ 0
  · have g2 : 2 ≤ d.g := by
      by_cases z : d.g = 1
      · rw [z, Int.emod_one] at c
        exact absurd rfl c
      · omega
    unfold modB
    rw [decide_eq_true g2, Int.fmod_eq_emod_of_nonneg _ (by omega), Int.fmod_eq_emod_of_nonneg _ (by omega), Int.fmod_eq_emod_of_nonneg _ (by omega), decide_eq_true (Int.emod_eq_zero_of_dvd da), decide_eq_true (Int.emod_eq_zero_of_dvd db), decide_eq_true c]
    rfl
  · rw [if_neg c] at n
    cases n
theorem limL_no : ∀ (zs : List (Int × Int)) (s e : List Int), limL zs s e = none → ∃ x ∈ zs, x.2 - x.1 = 0 ∧ x.1 < 0 := by
  intro zs
  induction zs with
  | nil =>
    intro s e h
    cases h
  | cons x r ih =>
    intro s e h
    rw [limL] at h
    by_cases c : 0 < x.2 - x.1
    · rw [if_pos c] at h
      obtain ⟨y, m, w⟩ := ih _ _ h
      exact ⟨y, List.mem_cons_of_mem _ m, w⟩
    · rw [if_neg c] at h
      by_cases c2 : x.2 - x.1 < 0
      · rw [if_pos c2] at h
        obtain ⟨y, m, w⟩ := ih _ _ h
        exact ⟨y, List.mem_cons_of_mem _ m, w⟩
      · rw [if_neg c2] at h
        by_cases c3 : x.1 < 0
        · exact ⟨x, List.mem_cons_self, by omega, c3⟩
        · rw [if_neg c3] at h
          obtain ⟨y, m, w⟩ := ih _ _ h
          exact ⟨y, List.mem_cons_of_mem _ m, w⟩
/-- each limit comes of a run -/
theorem limL_of : ∀ (zs : List (Int × Int)) (s e s2 e2 : List Int), limL zs s e = some (s2, e2) →
    (∀ k ∈ s2, k ∈ s ∨ ∃ x ∈ zs, 0 < x.2 - x.1 ∧ k = -(x.1 / (x.2 - x.1))) ∧ (∀ k ∈ e2, k ∈ e ∨ ∃ x ∈ zs, x.2 - x.1 < 0 ∧ k = x.1 / -(x.2 - x.1)) := by
  intro zs
  induction zs with
  | nil =>
    intro s e s2 e2 h
    have h := Option.some.inj h
    obtain ⟨rfl, rfl⟩ := Prod.mk.inj h
    exact ⟨fun k m => .inl m, fun k m => .inl m⟩
  | cons x r ih =>
    intro s e s2 e2 h
    have up : ∀ {P : Int × Int → Prop}, (∃ y ∈ r, P y) → ∃ y ∈ x :: r, P y := fun ⟨y, m, w⟩ => ⟨y, List.mem_cons_of_mem _ m, w⟩
    rw [limL] at h
    by_cases c : 0 < x.2 - x.1
    · rw [if_pos c] at h
      obtain ⟨h1, h2⟩ := ih _ _ _ _ h
      refine ⟨fun k m => ?_, fun k m => (h2 k m).imp id up⟩
      rcases h1 k m with w | w
      · rcases List.mem_append.mp w with w | w
        · exact .inl w
        · exact .inr ⟨x, List.mem_cons_self, c, List.mem_singleton.mp w⟩
      · exact .inr (up w)
    · rw [if_neg c] at h
      by_cases c2 : x.2 - x.1 < 0
      · rw [if_pos c2] at h
        obtain ⟨h1, h2⟩ := ih _ _ _ _ h
        refine ⟨fun k m => (h1 k m).imp id up, fun k m => ?_⟩
        rcases h2 k m with w | w
        · rcases List.mem_append.mp w with w | w
          · exact .inl w
          · exact .inr ⟨x, List.mem_cons_self, c2, List.mem_singleton.mp w⟩
        · exact .inr (up w)
      · rw [if_neg c2] at h
        by_cases c3 : x.1 < 0
        · rw [if_pos c3] at h
          cases h
        · rw [if_neg c3] at h
          obtain ⟨h1, h2⟩ := ih _ _ _ _ h
          exact ⟨fun k m => (h1 k m).imp id up, fun k m => (h2 k m).imp id up⟩
/-- the runs of a pair further on the line -/
theorem zip_on (l : Line) (b : Bd) (k : Int) :
    (slacks (after l.base l.step k) b).zip (slacks (after (after l.base l.step k) l.step 1) b) =
      ((slacks l.base b).zip (slacks (after l.base l.step 1) b)).map fun x => (x.1 + (x.2 - x.1) * k, x.1 + (x.2 - x.1) * (k + 1)) := by
  obtain ⟨⟨p1, p2⟩, ⟨s1, s2⟩⟩ := l
  obtain ⟨low, high, first, rounds⟩ := b
  unfold slacks after
  cases high <;> cases rounds <;> simp [Prod.ext_iff] <;> grind
theorem paper_gap {p q : Pr} {b : Bd} {l : Line} (h : p.1 ≠ 0 ∨ q.1 ≠ 0) (n : lineOf p q = some l) (s : spanOf (limits l b) = none) : gapB p q b (gapAt l (limits l b)) = true := by
  obtain ⟨L1, L2⟩ := line_some h n
  have on : ∀ k, (lackB (((slacks l.base b).zip (slacks (after l.base l.step 1) b)).map fun x => (x.1 + (x.2 - x.1) * k, x.1 + (x.2 - x.1) * (k + 1))) &&
      lackA (((slacks l.base b).zip (slacks (after l.base l.step 1) b)).map fun x => (x.1 + (x.2 - x.1) * k, x.1 + (x.2 - x.1) * (k + 1)))) = true → gapB p q b (after l.base l.step k) = true := by
    intro k w
    unfold gapB pairsOf
    rw [← line_step n, zip_on, w, show meetB p q (after l.base l.step k) = true from decide_eq_true ((L1 _).mpr ⟨k, rfl⟩)]
    rfl
  cases c : limits l b with
  | none =>
    obtain ⟨x, m, g0, x0⟩ := limL_no _ _ _ c
    refine on 0 ?_
    rw [Bool.and_eq_true]
    refine ⟨List.any_eq_true.mpr ⟨_, List.mem_map.mpr ⟨x, m, rfl⟩, ?_⟩, List.any_eq_true.mpr ⟨_, List.mem_map.mpr ⟨x, m, rfl⟩, ?_⟩⟩
    all_goals
      simp only [g0, Int.zero_mul, Int.add_zero, Bool.and_eq_true, decide_eq_true_eq]
      omega
  | some y =>
    obtain ⟨ss, ee⟩ := y
    rw [c] at s
    have s : (if gap ss.max? ee.min? = true then none else some (ss.max?, ee.min?)) = (none : Option Span) := s
    by_cases g : gap ss.max? ee.min? = true
    · obtain ⟨a, ha⟩ : ∃ a, ss.max? = some a := by
        cases z : ss.max? with
        | none =>
          rw [z] at g
          cases g
        | some a => exact ⟨a, rfl⟩
      obtain ⟨d, hd⟩ : ∃ d, ee.min? = some d := by
        cases z : ee.min? with
        | none =>
          rw [z, ha] at g
          cases g
        | some d => exact ⟨d, rfl⟩
      rw [ha, hd] at g
      have g := of_decide_eq_true (show decide (d < a) = true from g)
      obtain ⟨h1, h2⟩ := limL_of _ _ _ _ _ c
      obtain ⟨x, mx, x0, xa⟩ := (h1 a (List.max?_eq_some_iff.mp ha).1).resolve_left List.not_mem_nil
      obtain ⟨z, mz, z0, zd⟩ := (h2 d (List.min?_eq_some_iff.mp hd).1).resolve_left List.not_mem_nil
      show gapB p q b (after l.base l.step (ss.max?.getD 0 - 1)) = true
      rw [ha]
      show gapB p q b (after l.base l.step (a - 1)) = true
      refine on (a - 1) ?_
      have ux := up_iff (a := x.1) (k := a - 1) x0
      have uz := down_iff (a := z.1) (k := a - 1 + 1) z0
      have e1 : (x.2 - x.1) * (a - 1 + 1) = (x.2 - x.1) * (a - 1) + (x.2 - x.1) := by grind
      have e2 : (z.2 - z.1) * (a - 1 + 1) = (z.2 - z.1) * (a - 1) + (z.2 - z.1) := by grind
      rw [Bool.and_eq_true]
      refine ⟨List.any_eq_true.mpr ⟨_, List.mem_map.mpr ⟨x, mx, rfl⟩, ?_⟩, List.any_eq_true.mpr ⟨_, List.mem_map.mpr ⟨z, mz, rfl⟩, ?_⟩⟩
      all_goals
        simp only [Bool.and_eq_true, decide_eq_true_eq]
        omega
    · rw [if_neg g] at s
      cases s
theorem paper_near {p q : Pr} {b : Bd} {l : Line} {s : Span} (h : p.1 ≠ 0 ∨ q.1 ≠ 0) (n : lineOf p q = some l) (hs : spanOf (limits l b) = some s) : ∃ e, least l s (l.step.2 - l.step.1) l.step.2 = some e ∧ (told p q b).near = some e := by
  have P := the_span h n hs
  obtain ⟨e, he⟩ := least_there P kNear _ _ _ _ (by have := P.step; omega) (kNear_at l) (fun _ => ⟨b.low, fun e g => g.2.2.1⟩) (fun _ => ⟨b.first + b.low, fun e g => by have := g.2.1; have := g.2.2.1; show _ ≤ e.2; omega⟩)
  refine ⟨e, he, ?_⟩
  unfold told
  simp only [n, hs]
  exact he
theorem paper_ok (p q : Pr) (b : Bd) (h : p.1 ≠ 0 ∨ q.1 ≠ 0) : judge p q b (paperOf p q b).value = true := by
  unfold paperOf
  cases n : lineOf p q with
  | none => exact paper_mod h n
  | some l =>
    cases s : spanOf (limits l b) with
    | none =>
      simp only [s]
      exact paper_gap h n s
    | some sp =>
      obtain ⟨e, he, hn⟩ := paper_near h n s
      simp only [s, he, Option.getD_some]
      exact decide_eq_true hn
/-- the word of the paper -/
def PP.isNear : PP → Bool
  | .near _ => true
  | _ => false
theorem paper_truth (p q : Pr) (b : Bd) (h : p.1 ≠ 0 ∨ q.1 ≠ 0) : (told p q b).near.isSome = (paperOf p q b).isNear := by
  unfold paperOf
  cases n : lineOf p q with
  | none =>
    unfold told
    simp only [n]
    rfl
  | some l =>
    cases s : spanOf (limits l b) with
    | none =>
      unfold told
      simp only [n, s]
      rfl
    | some sp =>
      obtain ⟨e, he, hn⟩ := paper_near h n s
      rw [hn]
      simp only [s]
      rfl
end Met
namespace K14
open PySem L2
open L2.My
open Met
/-! ### bounds by powers of two -/
def B (n : Nat) (i : Int) : Prop := i.natAbs < 2 ^ n
theorem B.up {n m : Nat} {i : Int} (h : B n i) (l : n ≤ m := by omega) : B m i := Nat.lt_of_lt_of_le h (Nat.pow_le_pow_right (by decide) l)
theorem B.le {n : Nat} {i j : Int} (h : B n i) (l : j.natAbs ≤ i.natAbs) : B n j := Nat.lt_of_le_of_lt l h
theorem B.add {n : Nat} {i j : Int} (h : B n i) (g : B n j) : B (n + 1) (i + j) := by
  unfold B at *
  rw [Nat.pow_succ]
  generalize 2 ^ n = t at *
  omega
theorem B.sub {n : Nat} {i j : Int} (h : B n i) (g : B n j) : B (n + 1) (i - j) := by
  unfold B at *
  rw [Nat.pow_succ]
  generalize 2 ^ n = t at *
  omega
theorem B.neg {n : Nat} {i : Int} (h : B n i) : B n (-i) := by
  unfold B at *
  omega
theorem B.mul {n m : Nat} {i j : Int} (h : B n i) (g : B m j) : B (n + m) (i * j) := by
  unfold B at *
  rw [Int.natAbs_mul, Nat.pow_add]
  exact Nat.mul_lt_mul'' h g
theorem B.one {n : Nat} (h : 1 ≤ n := by omega) : B n 1 := by
  have : 2 ^ 1 ≤ 2 ^ n := Nat.pow_le_pow_right (by decide) h
  unfold B
  show 1 < 2 ^ n
  omega
theorem B.div {n : Nat} {i j : Int} (h : B n i) : B n (i / j) := B.le h (Int.natAbs_ediv_le_natAbs _ _)
theorem B.fdiv {n : Nat} {i j : Int} (h : B n i) (g : B n j) (nz : j ≠ 0) : B (n + 1) (i.fdiv j) := by
  have e := fdiv_split i j
  have l := fmod_less (a := i) nz
  have q : (i.fdiv j).natAbs * j.natAbs ≤ i.natAbs + j.natAbs := by
    rw [← Int.natAbs_mul]
    omega
  have j1 : 1 ≤ j.natAbs := by omega
  have q2 : (i.fdiv j).natAbs * 1 ≤ (i.fdiv j).natAbs * j.natAbs := Nat.mul_le_mul_left _ j1
  unfold B at *
  rw [Nat.pow_succ]
  generalize 2 ^ n = t at *
  omega
theorem B.lim {n C : Nat} {i : Int} (h : i.natAbs ≤ C) (c : C < 2 ^ n) : B n i := Nat.lt_of_le_of_lt h c
/-- // by any divisor but 0 -/
def CDivV (_ j : Int) : Prop := j ≠ 0 ∧ j.natAbs.log2 < 9000
theorem op_fdivV {X : Cx} : OpR X (PySem.binaryOp .FloorDiv) (rI CDivV fun i j => .int (i.fdiv j)) := opI fun _ _ _ _ _ _ _ hc q => PyProof.Rows.floordiv_int hc.1 q (.inl (PyProof.noPylong_of_log2 hc.2))
theorem B.log {n : Nat} {j : Int} (h : B n j) (l : n ≤ 9000) (p : 0 < n) : j.natAbs.log2 < 9000 := by
  have := PySem.Flt.log2_lt_of p h
  omega
theorem B.dv {n : Nat} {i j : Int} (h : B n j) (nz : j ≠ 0) (l : n ≤ 9000 := by decide) (p : 0 < n := by decide) : CDivV i j := ⟨nz, h.log l p⟩
theorem B.dw {n : Nat} {i j : Int} (h : B n j) (nz : 0 < j) (l : n ≤ 9000 := by decide) (p : 0 < n := by decide) : CDivW i j := ⟨nz, h.log l p⟩
theorem B.ml {n m : Nat} {i j : Int} (h : B n i) (g : B m j) (p : 0 < n := by decide) (q : 0 < m := by decide) (l : n + m ≤ 1000000 := by decide) : CMulW i j := wide_mul h g p q l
/-! ### tuples and lists of ints -/
def Ints (H : Hp) (a : Addr) (xs : List Int) : Prop := H a = some (.tup (xs.map V.int))
def PairAt (H : Hp) (a : Addr) (e : Pr) : Prop := H a = some (.tup [.int e.1, .int e.2])
theorem int_at {xs : List Int} {i : Nat} {v : V} (h : (xs.map V.int)[i]? = some v) : ∃ n, v = .int n ∧ xs[i]? = some n := by
  rw [List.getElem?_map] at h
  cases e : xs[i]? with
  | none =>
    rw [e] at h
    cases h
  | some n =>
    rw [e] at h
    exact ⟨n, (Option.some.inj h).symm, rfl⟩
def Acc (H0 : Hp) (D : Addr) (xs : List V) (H : Hp) : Prop := Same H0 H ∧ H0 D = none ∧ H D = some (.lst xs)
theorem grow {H : Hp} {p : Addr} {o : HO} (hp : H p = none) : Same H (upd H p o) := fun b u e => by rw [upd_ne (ne_of_none e hp)]; exact e
theorem Acc.start {H0 : Hp} {D : Addr} (hD : H0 D = none) : Acc H0 D [] (upd H0 D (.lst [])) := ⟨grow hD, hD, upd_same⟩
theorem Acc.put {H0 H : Hp} {D : Addr} {xs ys : List V} (a : Acc H0 D xs H) : Acc H0 D ys (upd H D (.lst ys)) :=
  ⟨fun q o e => by rw [upd_ne (ne_of_none e a.2.1)]; exact a.1 q o e, a.2.1, upd_same⟩
theorem Acc.on {H0 H H' : Hp} {D : Addr} {xs : List V} (a : Acc H0 D xs H) (s : Same H H') : Acc H0 D xs H' := ⟨fun q o e => s _ _ (a.1 q o e), a.2.1, s _ _ a.2.2⟩
theorem take_step {α : Type} {xs : List α} {i : Nat} {x : α} (h : xs[i]? = some x) : xs.take (i + 1) = xs.take i ++ [x] := by
  rw [List.take_add_one, h]
  rfl
/-- a def as its callers see it -/
structure Dn (P : Program) (w : World) (K : PySem.W.Frag) (mg : Str → Option Value) (base : Heap) (CX : CXT) (x : Str) (ps : List Str) (k : Nat) (sp : Sp) (f : Addr) (fd : FuncData) : Prop where
  G : FnOk P w K mg base CX k f fd ps sp
  kp : PySem.W.keepIn K (.ref f) = true
  b : Binds K fd ps []
  g : mg x = some (.ref f)
theorem two_line : (2 : Nat) ≤ sizeLine := by decide
theorem n_line {xs : List V} (h : xs.length ≤ 1000 := by simp) : xs.length ≤ sizeLine := Nat.le_trans h (by decide)
theorem mk_at {H : Hp} {p : Addr} {o : HO} (n : H p = none) : ∃ H', upd H p o = H' ∧ Same H H' ∧ H' p = some o := ⟨_, rfl, grow n, upd_same⟩
theorem PairAt.same {H H' : Hp} {a : Addr} {e : Pr} (h : PairAt H a e) (s : Same H H') : PairAt H' a e := s _ _ h
def TriAt (H : Hp) (a : Addr) (t : Tri) : Prop := H a = some (.tup [.int t.g, .int t.x, .int t.y])
/-! ### divisor_of -/
def spDiv : Sp := fun vs H Q _ => ∃ a b : Int, vs = [.int a, .int b] ∧ B 400 a ∧ B 400 b ∧ (a ≠ 0 ∨ b ≠ 0) ∧ ∀ t H', Same H H' → TriAt H' t (divOf a b) → Q (.ref t) H'
theorem scDiv : FnScope ["one", "other", "old", "new", "times", "before", "now", "part"] ["one", "other"] (defScope tDiv) := ⟨rfl, rfl, rfl, by decide +kernel, rfl, by decide +kernel, by decide +kernel⟩
structure DTxt (mg : Str → Option Value) : Prop where
  zip : mg "zip" = none
  tuple : mg "tuple" = none
section
variable {P : Program} {w : World} {K : PySem.W.Frag} {mg : Str → Option Value} {base : Heap}
theorem lim403 {a b : Int} (ha : B 400 a) (hb : B 400 b) : a.natAbs + 2 * b.natAbs + 1 < 2 ^ 403 := by
  unfold B at ha hb
  have e : (2 : Nat) ^ 403 = 8 * 2 ^ 400 := by
    rw [show (403 : Nat) = 3 + 400 from rfl, Nat.pow_add]
  rw [e]
  generalize (2 : Nat) ^ 400 = t at *
  omega
theorem ok_div {f : Addr} {fd : FuncData} (F : Fun K "divisor_of" "divisor_of" tDiv f fd) (T : DTxt mg) : FnOk P w K mg base CX0 1 f fd ["one", "other"] spDiv := by
  refine F.ok scDiv (fun vs H Q E h => ?_) (fun cdv A outer s H vs Q E hr h => ?_)
  · obtain ⟨a, b, rfl, _⟩ := h
    rfl
  · obtain ⟨a, b, rfl, ha, hb, nz, k⟩ := h
    have L := lim403 ha hb
    refine ⟨_, pss_cons (ps_par (i := 2) (j := 3) rfl scDiv.nd rfl rfl (by decide) rfl rfl (pa_cons (pe_tup (pa_cons (pv 0) (pa_cons pe_int (pa_cons pe_int pa_nil)))) (pa_cons (pe_tup (pa_cons (pv 1) (pa_cons pe_int (pa_cons pe_int pa_nil)))) pa_nil)) (by rfl))
      (pss_cons (ps_while PassesOwn.never (pt_cmpR op_ne (pe_ix ix_tup (pv 3) pe_int (fun _ _ => rfl)) pe_int (nomark _))
        (pss_cons (ps_set (i := 4) scDiv.nd rfl (.inr rfl) (pe_op op_fdivV (pe_ix ix_tup (pv 2) pe_int (fun _ _ => rfl)) (pe_ix ix_tup (pv 3) pe_int (fun _ _ => rfl))))
        (pss_one (ps_par (i := 2) (j := 3) rfl scDiv.nd rfl rfl (by decide) rfl rfl (pa_cons (pv 3) (pa_cons (pe_callTy call_tuple_of (by rfl) T.tuple (by decide +kernel) (pa_cons
          (pe_lc (own := [("before", 5), ("now", 6)]) (g := gTup K 2 (gCons (gName 5) (gCons (gName 6) gNil))) (tt := tYes) (by rfl) scDiv.nd (RZ.pi_zipA rfl T.zip (pa_cons (pv 2) (pa_cons (pv 3) pa_nil)))
            (blkOk_by (own := [("before", 5), ("now", 6)]) (N := ["one", "other", "old", "new", "times", "before", "now", "part"]) (sc := defScope tDiv) (by decide +kernel))
            (fun _ _ _ _ _ => pg_tup rfl (pgs_cons (pg_name (i := 5) scDiv.nd rfl (.inl rfl)) (pgs_cons (pg_name (i := 6) scDiv.nd rfl (.inl rfl)) pgs_nil))) (fun _ _ _ _ _ => pts_nil) (fun _ _ _ _ _ => pe_op op_sub (pv 5) (pe_op op_mulW (pv 4) (pv 6)))) pa_nil)) pa_nil)) (by rfl)))))
      (pss_one (ps_ret (pe_ifExp (pt_cmpR op_gt (pe_ix ix_tup (pv 2) pe_int (fun _ _ => rfl)) pe_int (nomark _)) (pv 2) (pe_callTy call_tuple_of (by rfl) T.tuple (by decide +kernel) (pa_cons
          (pe_lc (own := [("part", 7)]) (g := gName 7) (tt := tYes) (by rfl) scDiv.nd (pi_tup (pv 2)) (blkOk_by (own := [("part", 7)]) (N := ["one", "other", "old", "new", "times", "before", "now", "part"]) (sc := defScope tDiv) (by decide +kernel))
            (fun _ _ _ _ _ => pg_name (i := 7) scDiv.nd rfl (Or.inl rfl)) (fun _ _ _ _ _ => pts_nil) (fun _ _ _ _ _ => pe_un un_neg (pv 7))) pa_nil)))))), ?_⟩
    have line : (1000 : Nat) < sizeLine := by decide
    refine ⟨_, rfl, n_line, fun p1 n1 => ?_⟩
    obtain ⟨H1, z1, s1, e1⟩ := mk_at (o := .tup [V.int a, V.int 1, V.int 0]) n1
    rw [z1]
    refine ⟨_, rfl, n_line, fun p2 n2 => ?_⟩
    obtain ⟨H2, z2, s2, e2⟩ := mk_at (o := .tup [V.int b, V.int 0, V.int 1]) n2
    rw [z2]
    refine ⟨_, _, rfl, ?_⟩
    obtain ⟨W, hW⟩ : ∃ W : Nat → L2.St → Hp → Prop, W = fun m σ H' => ∃ (po pn : Addr) (o n : Tri) (x4 x5 x6 x7 : Option V), σ = [some (.int a), some (.int b), some (.ref po), some (.ref pn), x4, x5, x6, x7] ∧ Same H H' ∧ TriAt H' po o ∧ TriAt H' pn n ∧ J a b o n ∧
      m = n.g.natAbs ∧ divL (m + 1) o n = divL (b.natAbs + 1) ⟨a, 1, 0⟩ ⟨b, 0, 1⟩ := ⟨_, rfl⟩
    refine ⟨W, ⟨b.natAbs, by rw [hW]; exact ⟨p1, p2, ⟨a, 1, 0⟩, ⟨b, 0, 1⟩, none, none, none, none, rfl, s1.trans s2, s2 _ _ e1, e2, .start, rfl, rfl⟩⟩, ?_⟩
    intro m σ H3 w3
    rw [hW] at w3
    obtain ⟨po, pn, o, n, x4, x5, x6, x7, rfl, s3, eo, en, j, rfl, ed⟩ := w3
    obtain ⟨lo, ln⟩ := j.lim
    refine ⟨_, rfl, pn, _, 0, _, rfl, rfl, SqT.of en, atI_nat (j := 0) rfl, rfl, _, rfl, ?_⟩
    have line : (1000 : Nat) < sizeLine := by decide
    by_cases c : n.g = 0
    · have ce : (!decide (V.int n.g = V.int 0)) = false := by simp [c]
      rw [ce]
      refine iteF ?_
      have dz : divL (n.g.natAbs + 1) o n = o := divL_end c
      rw [dz] at ed
      have eD : divOf a b = posT o := by
        unfold divOf
        rw [← ed]
      refine ⟨_, rfl, po, _, 0, _, rfl, rfl, SqT.of eo, atI_nat (j := 0) rfl, _, _, rfl, rfl, _, rfl, ?_⟩
      by_cases cp : 0 < o.g
      · rw [decide_eq_true cp]
        refine iteT ⟨_, rfl, k _ _ s3 ?_⟩
        rw [eD]
        unfold posT
        rw [if_pos cp]
        exact eo
      · rw [decide_eq_false cp]
        refine iteF ⟨_, rfl, po, rfl, ⟨_, SqT.of eo⟩, fun D hD => lc_tup (xs := [V.int o.g, V.int o.x, V.int o.y]) (fun i H' => Acc H3 D (([-o.g, -o.x, -o.y].take i).map V.int) H') (Acc.start hD) (fun i H' _ q => SqT.of (q.1 _ _ eo)) ?_ ?_⟩
        · intro i y H4 hy q
          obtain ⟨u, rfl, hu⟩ := int_at (xs := [o.g, o.x, o.y]) (show ([o.g, o.x, o.y].map V.int)[i]? = some y from hy)
          have hv : [-o.g, -o.x, -o.y][i]? = some (-u) := by
            rw [show [-o.g, -o.x, -o.y] = [o.g, o.x, o.y].map (fun z => -z) from rfl, List.getElem?_map, hu]
            rfl
          refine ⟨rfl, _, rfl, _, rfl, _, q.2.2, ?_, ?_⟩
          · have := List.length_take_le i [-o.g, -o.x, -o.y]
            simp
            omega
          · rw [take_step hv, List.map_append]
            exact q.put
        · intro H4 q
          refine ⟨D, _, rfl, .inl ⟨SqL.of q.2.2, fun t nt => k _ _ (s3.trans (q.1.trans (grow nt))) ?_⟩⟩
          rw [eD]
          unfold posT
          rw [if_neg cp]
          exact upd_same
    · have ce : (!decide (V.int n.g = V.int 0)) = true := by simp [c]
      rw [ce]
      refine iteT ⟨fun σ' H' => ∃ m', m' < n.g.natAbs ∧ W m' σ' H', fun _ _ h => h, ?_⟩
      have bog : B 403 o.g := B.lim lo.g L
      have bng : B 403 n.g := B.lim ln.g L
      have bnx : B 403 n.x := B.lim ln.x L
      have bny : B 403 n.y := B.lim ln.y L
      refine ⟨_, rfl, po, _, 0, _, rfl, rfl, SqT.of eo, atI_nat (j := 0) rfl, _, rfl, pn, _, 0, _, rfl, rfl, SqT.of en, atI_nat (j := 0) rfl, _, _, rfl, rfl, bng.dv c, ?_⟩
      have bt : B 404 (o.g.fdiv n.g) := bog.fdiv bng c
      refine ⟨_, rfl, _, rfl, _, rfl, po, pn, [V.int o.g, V.int o.x, V.int o.y], [V.int n.g, V.int n.x, V.int n.y], rfl, .inr ⟨SqT.of eo, SqT.of en, fun D hD => lc_it (walk_zipT (n := 3) rfl)
        (fun i H' => Acc H3 D (([o.g - o.g.fdiv n.g * n.g, o.x - o.g.fdiv n.g * n.x, o.y - o.g.fdiv n.g * n.y].take i).map V.int) H') (Acc.start hD) (fun i H' _ q => ⟨SqT.of (q.1 _ _ eo), SqT.of (q.1 _ _ en)⟩) ?_ ?_⟩⟩
      · rintro i v H4 H5 hi q ⟨T3, x, y, rfl, nT, rfl, hx, hy⟩
        obtain ⟨u, rfl, hu⟩ := int_at (xs := [o.g, o.x, o.y]) (show ([o.g, o.x, o.y].map V.int)[i]? = some x from hx)
        obtain ⟨u', rfl, hu'⟩ := int_at (xs := [n.g, n.x, n.y]) (show ([n.g, n.x, n.y].map V.int)[i]? = some y from hy)
        have hv : [o.g - o.g.fdiv n.g * n.g, o.x - o.g.fdiv n.g * n.x, o.y - o.g.fdiv n.g * n.y][i]? = some (u - o.g.fdiv n.g * u') := by
          rw [show [o.g - o.g.fdiv n.g * n.g, o.x - o.g.fdiv n.g * n.x, o.y - o.g.fdiv n.g * n.y] = List.zipWith (fun x y => x - o.g.fdiv n.g * y) [o.g, o.x, o.y] [n.g, n.x, n.y] from rfl, List.getElem?_zipWith, hu, hu']
        have bu : B 403 u' := by
          have m := List.mem_of_getElem? hu'
          simp only [List.mem_cons, List.not_mem_nil, or_false] at m
          rcases m with rfl | rfl | rfl
          · exact bng
          · exact bnx
          · exact bny
        obtain ⟨H6, z6, s6, e6⟩ := mk_at (o := .tup [V.int u, V.int u']) nT
        rw [z6]
        refine ⟨T3, _, rfl, SqT.of e6, rfl, _, _, rfl, _, _, rfl, rfl, rfl, _, rfl, _, rfl, _, rfl, _, _, rfl, rfl, bt.ml bu, _, _, rfl, rfl, _, (q.on s6).2.2, ?_, ?_⟩
        · have := List.length_take_le i [o.g - o.g.fdiv n.g * n.g, o.x - o.g.fdiv n.g * n.x, o.y - o.g.fdiv n.g * n.y]
          simp
          omega
        · rw [take_step hv, List.map_append]
          exact (q.on s6).put
      · intro H4 q
        refine ⟨D, _, rfl, .inl ⟨SqL.of q.2.2, fun t nt => ⟨_, _, rfl, (stepD o n).g.natAbs, ?_, ?_⟩⟩⟩
        · rw [step_g]
          exact fmod_less c
        · rw [hW]
          refine ⟨pn, t, n, stepD o n, _, _, _, _, rfl, s3.trans (q.1.trans (grow nt)), (q.1.trans (grow nt)) _ _ en, ?_, j.step c, rfl, ?_⟩
          · unfold stepD
            exact upd_same
          · rw [← ed, divL_next c]
            have l := fmod_less (a := o.g) c
            exact divL_room _ _ _ _ (Nat.lt_succ_self _) (by rw [step_g]; exact l)
end
end K14
namespace L2
open PySem PySem.Spec PyProof.Rows
def dKw (d : Value) : List (Str × Value) := [(Str.ofString "default", d)]

theorem maxD_args (a d : Value) : argsOk "max" ⟨[a], dKw d⟩ := by unfold argsOk; kernel_rfl
section
variable {prog : Program} {w : World} {A : Around} {R : Result → Shared → Prop} {I S : Addr} {d : Value} {fp wr : List Addr} {n : Nat} {P : Nat → Value → Prop} {Sw : Nat → Heap → Prop}
/-- behind the item j: the best of the items up to it is kept -/
theorem maxD_on (W : Walks prog w A.in1 I fp wr n P Sw) (bt : Nat → Nat → Bool) (cmp : CmpOf prog w A.in1 .Gt P bt) (nS : S ∉ fp) (k : Nat) :
    ∀ (j : Nat) (s : Shared) (v : Value) (c : Nat), n = j + 1 + k → Sw (j + 1) s.heap → P (argBest bt j) v → s.heap.get? S = some { cls := .type "list", dict := none, data := .seq #[v, v] c, slots := #[] } →
      (∀ x h tk, P (argBest bt (n - 1)) x → (∀ b o, b ∉ wr → b ≠ S → s.heap.get? b = some o → h.get? b = some o) → R (.ok (.ret x)) { s with heap := h, toks := tk }) →
      codeAny (model prog w) A (.builtin "max.loop" ⟨[.ref I, .none, .ref S], dKw d⟩) R s := by
  have wS : S ∉ wr := fun h => nS (W.sub _ h)
  have nm : (toString "max" ++ toString ".loop" : String) = "max.loop" := by decide
  induction k with
  | zero =>
    intro j s v c hn st hv hS hR
    have hj : j + 1 = n := hn.symm
    refine codeAny_builtin PySem.F.entry_max_loop ?_
    rw [Around.under_plainId PySem.F.plain_max_loop _]
    show wpAny _ A.in1 (seqItems? (.ref S) >>= _) _ _ s
    refine wpAny_bind (wpAny_seqItems hS rfl ?_)
    show wpAny _ A.in1 (tryCatch (pyNext (.ref I)) _ >>= _) _ _ s
    refine wpAny_bind (wpAny_tryCatch (W.done s _ _ (hj ▸ st) fun h tk hk => ?_))
    show wpAny _ A.in1 (updateSeq S (fun _ => #[]) >>= _) _ _ _
    refine wpAny_bind (wpAny_updateSeq (hk S _ wS hS) rfl (wpAny_bind (wpAny_letGo (wpAny_pure ?_))))
    exact hR v _ tk (by rw [← hj]; exact hv) fun b o b1 b2 e => (Heap.get?_update_other _ _ (Ne.symm b2)).trans (hk b o b1 e)
  | succ k ih =>
    intro j s v c hn st hv hS hR
    refine codeAny_builtin PySem.F.entry_max_loop ?_
    rw [Around.under_plainId PySem.F.plain_max_loop _]
    show wpAny _ A.in1 (seqItems? (.ref S) >>= _) _ _ s
    refine wpAny_bind (wpAny_seqItems hS rfl ?_)
    show wpAny _ A.in1 (tryCatch (pyNext (.ref I)) _ >>= _) _ _ s
    refine wpAny_bind (wpAny_tryCatch (W.item (j + 1) s _ _ (by omega) st fun x h tk hx st2 hk => ?_))
    have hS2 := hk S _ wS hS
    show wpAny _ A.in1 (tryCatch (holding [x, x] (richCompare .Gt x v >>= _)) _ >>= _) _ _ _
    refine wpAny_bind (wpAny_tryCatch (wpAny_holding (wpAny_bind (cmp (j + 1) (argBest bt j) x v _ _ _ hx hv ?_))))
    refine wpAny_bind (wpAny_holding (wpAny_truthy_bool (wpAny_bind (wpAny_letGo (wpAny_pure ?_)))))
    cases hb : bt (j + 1) (argBest bt j) with
    | true =>
      simp only [if_true]
      refine wpAny_bind (wpAny_updateSeq hS2 rfl (wpAny_bind (wpAny_letGo ?_)))
      rw [nm]
      refine wpAny_pure ⟨plainId_quiet PySem.F.plain_max_loop _, ih (j + 1) _ x _ (by omega) (W.frame _ _ _ st2 fun b b1 o e => ?_) (by simp only [argBest, hb, if_true]; exact hx) (Heap.get?_update_self _ hS2 rfl) fun y h2 tk2 hy hk2 => ?_⟩
      · exact (Heap.get?_update_other _ _ (fun q : S = b => nS (by rw [q]; exact b1))).trans e
      · exact hR y h2 tk2 hy fun b o b1 b2 e => hk2 b o b1 b2 ((Heap.get?_update_other _ _ (Ne.symm b2)).trans (hk b o b1 e))
    | false =>
      simp only [Bool.false_eq_true, if_false]
      refine wpAny_bind (wpAny_letGo ?_)
      rw [nm]
      exact wpAny_pure ⟨plainId_quiet PySem.F.plain_max_loop _, ih (j + 1) _ v c (by omega) st2 (by simp only [argBest, hb, Bool.false_eq_true, if_false]; exact hv) hS2 fun y h2 tk2 hy hk2 =>
        hR y h2 tk2 hy fun b o b1 b2 e => hk2 b o b1 b2 (hk b o b1 e)⟩
/-- the whole walk: the default where there is no item -/
theorem maxD_walk (W : Walks prog w A.in1 I fp wr n P Sw) (bt : Nat → Nat → Bool) (cmp : CmpOf prog w A.in1 .Gt P bt) (nS : S ∉ fp) {s : Shared} {c : Nat} (st : Sw 0 s.heap)
    (hS : s.heap.get? S = some { cls := .type "list", dict := none, data := .seq #[] c, slots := #[] })
    (h0 : n = 0 → ∀ h tk, (∀ b o, b ∉ wr → b ≠ S → s.heap.get? b = some o → h.get? b = some o) → R (.ok (.ret d)) { s with heap := h, toks := tk })
    (hR : 0 < n → ∀ x h tk, P (argBest bt (n - 1)) x → (∀ b o, b ∉ wr → b ≠ S → s.heap.get? b = some o → h.get? b = some o) → R (.ok (.ret x)) { s with heap := h, toks := tk }) :
    codeAny (model prog w) A (.builtin "max.loop" ⟨[.ref I, .none, .ref S], dKw d⟩) R s := by
  have wS : S ∉ wr := fun h => nS (W.sub _ h)
  have nm : (toString "max" ++ toString ".loop" : String) = "max.loop" := by decide
  refine codeAny_builtin PySem.F.entry_max_loop ?_
  rw [Around.under_plainId PySem.F.plain_max_loop _]
  show wpAny _ A.in1 (seqItems? (.ref S) >>= _) _ _ s
  refine wpAny_bind (wpAny_seqItems hS rfl ?_)
  show wpAny _ A.in1 (tryCatch (pyNext (.ref I)) _ >>= _) _ _ s
  by_cases hn : n = 0
  · refine wpAny_bind (wpAny_tryCatch (W.done s _ _ (hn ▸ st) fun h tk hk => ?_))
    show wpAny _ A.in1 (rule _ >>= _) _ _ _
    refine wpAny_bind (wpAny_rule (wpAny_pure ?_))
    exact h0 hn _ tk fun b o b1 _ e => hk b o b1 e
  · refine wpAny_bind (wpAny_tryCatch (W.item 0 s _ _ (by omega) st fun x h tk hx st2 hk => ?_))
    have hS2 := hk S _ wS hS
    show wpAny _ A.in1 (updateSeq S (fun _ => #[x, x]) >>= _) _ _ _
    refine wpAny_bind (wpAny_updateSeq hS2 rfl ?_)
    rw [nm]
    refine wpAny_pure ⟨plainId_quiet PySem.F.plain_max_loop _, maxD_on W bt cmp nS (n - 1) 0 _ x _ (by omega) (W.frame _ _ _ st2 fun b b1 o e => ?_) hx (Heap.get?_update_self _ hS2 rfl) fun y h2 tk2 hy hk2 => ?_⟩
    · exact (Heap.get?_update_other _ _ (fun q : S = b => nS (by rw [q]; exact b1))).trans e
    · exact hR (by omega) y h2 tk2 hy fun b o b1 b2 e => hk2 b o b1 b2 ((Heap.get?_update_other _ _ (Ne.symm b2)).trans (hk b o b1 e))
end
section
variable {prog : Program} {w : World} {A : Around} {E : Value → Shared → Prop} {s : Shared} {l : Addr} {its : List Value} {ns : List Int} {Q : Value → Shared → Prop} {d : Value}
theorem maxD_raw (hh : A.handled = none) (hl : s.heap.IsList l its.toArray) (hi : IntsAre its ns)
    (h0 : ns = [] → ∀ h tk, (∀ b o, s.heap.get? b = some o → h.get? b = some o) → Q d { s with heap := h, toks := tk })
    (h : ∀ h' tk M t', (∀ b o, s.heap.get? b = some o → h'.get? b = some o) → M ∈ ns → (∀ a, a ∈ ns → a ≤ M) → Q (.int M t') { s with heap := h', toks := tk }) :
    wpAny (model prog w) A (call (.builtin "max") [.ref l] (dKw d)) Q E s := by
  obtain ⟨xs, e⟩ := hi.allInts.items
  have hn : numsOf (intItems xs).toList = ns := by rw [← e]; exact hi.numsOf
  rw [nums_intItems] at hn
  subst hn
  rw [e] at hl
  have nm : (toString "max" ++ toString ".loop" : String) = "max.loop" := by decide
  refine PyProof.Rows.kmk_tree PySem.F.kind_max PySem.F.plain_max PySem.F.entry_max (maxD_args _ _) ?_
  show wpAny _ A.in1 (Builtin.Builtins.bindParams "max" ["key", "default"] 0 ⟨[], dKw d⟩ >>= _) _ _ s
  refine wpAny_bind (wpAny_of_eq (show Builtin.Builtins.bindParams "max" ["key", "default"] 0 ⟨[], dKw d⟩ = pure [none, some d] from rfl) ?_)
  refine wpAny_bind (wpAny_pure ?_)
  refine wpAny_bind (iter_intList hl fun s2 e2 st fresh nl => ?_)
  subst e2
  refine wpAny_bind (wpAny_newObj_type ?_)
  rw [nm]
  have nS : (s.heap.push { cls := .type "list_iterator", data := .fields #[.ref l, .int 0 0] }).objs.size ∉ [s.heap.objs.size, l] := fun hm => Nat.lt_irrefl _ (fresh _ hm)
  have W := Walks.list (prog := prog) (w := w) (A := A.in1) hh s.heap.objs.size l nl (intItems xs)
  have sz : (intItems xs).size = xs.size := by simp [intItems]
  have old : ∀ (h' : Heap), (∀ b o, b ∉ [s.heap.objs.size] → b ≠ (s.heap.push { cls := .type "list_iterator", data := .fields #[.ref l, .int 0 0] }).objs.size → ((s.heap.push { cls := .type "list_iterator", data := .fields #[.ref l, .int 0 0] }).push (seqObj "list" #[] 0)).get? b = some o → h'.get? b = some o) →
      ∀ b o, s.heap.get? b = some o → h'.get? b = some o := fun h' hk => old_kept fun b o nb e => hk b o nb (Nat.ne_of_lt (Heap.lt_size e)) (Heap.get?_push_of_some _ e)
  refine wpAny_pure ⟨plainId_quiet PySem.F.plain_max_loop _, maxD_walk W (fun i j => decide (numAt xs i > numAt xs j)) (CmpOf.ints_gt (numAt xs) (fun _ _ => intItems_at)) nS (W.frame _ _ _ st fun b _ o e => Heap.get?_push_of_some _ e) (Heap.get?_push_size _ rfl) (fun hz h' tk hk => ?_) fun hz v h' tk hP hk => ?_⟩
  · refine h0 ?_ _ _ (old _ hk)
    rw [List.map_eq_nil_iff, Array.toList_eq_nil_iff]
    exact Array.eq_empty_of_size_eq_zero (by omega)
  · rw [sz] at hP
    obtain ⟨t, rfl⟩ := intItems_at hP
    obtain ⟨h1, h2⟩ := argBest_gt (numAt xs) (xs.size - 1)
    refine h h' tk _ t (old _ hk) ?_ fun a ha => ?_
    · rw [numAt_eq]; exact PySem.getD_mem (by rw [List.length_map, Array.length_toList]; omega)
    · obtain ⟨j, hj, rfl⟩ := mem_getD ha
      rw [List.length_map, Array.length_toList] at hj
      rw [← numAt_eq]; exact h2 j (by omega)
end
/-- max(xs, default=d), xs a list of ints -/
def rMaxDf (K : PySem.W.Frag) : List V → List V → Hp → VK → Prop := fun vs zs H Q => ∃ (a : Addr) (ns : List Int) (d : V), vs = [V.ref a] ∧ zs = [d] ∧ SqL K H a (ns.map V.int) ∧ (ns = [] → Q d H) ∧ ∀ m, m ∈ ns → (∀ a, a ∈ ns → a ≤ m) → Q (.int m) H
theorem cr_maxDf {X : Cx} (hc : X.calm = true) : CallRK X (.builtin "max") [Str.ofString "default"] (rMaxDf X.K) := by
  intro pins s σ H vs zs us ws Q I r rz h
  obtain ⟨a, ns, d, rfl, rfl, hs, q0, q⟩ := h
  obtain ⟨its, rv, hl, _⟩ := I.list hs
  obtain rfl := Vals.ref1 r
  obtain ⟨w1, rfl, e1⟩ := vals1 rz
  refine maxD_raw (d := w1) (I.ok.hd hc) hl.isList rv.ints (fun e h' tk hk => ⟨d, H, I.kept hk, e1, q0 e⟩) fun h' tk M t' hk m1 m2 => ⟨.int _, H, I.kept hk, ⟨_, rfl⟩, q _ m1 m2⟩

theorem minD_args (a d : Value) : argsOk "min" ⟨[a], dKw d⟩ := by unfold argsOk; kernel_rfl
section
variable {prog : Program} {w : World} {A : Around} {R : Result → Shared → Prop} {I S : Addr} {d : Value} {fp wr : List Addr} {n : Nat} {P : Nat → Value → Prop} {Sw : Nat → Heap → Prop}
/-- behind the item j: the best of the items up to it is kept -/
theorem minD_on (W : Walks prog w A.in1 I fp wr n P Sw) (bt : Nat → Nat → Bool) (cmp : CmpOf prog w A.in1 .Lt P bt) (nS : S ∉ fp) (k : Nat) :
    ∀ (j : Nat) (s : Shared) (v : Value) (c : Nat), n = j + 1 + k → Sw (j + 1) s.heap → P (argBest bt j) v → s.heap.get? S = some { cls := .type "list", dict := none, data := .seq #[v, v] c, slots := #[] } →
      (∀ x h tk, P (argBest bt (n - 1)) x → (∀ b o, b ∉ wr → b ≠ S → s.heap.get? b = some o → h.get? b = some o) → R (.ok (.ret x)) { s with heap := h, toks := tk }) →
      codeAny (model prog w) A (.builtin "min.loop" ⟨[.ref I, .none, .ref S], dKw d⟩) R s := by
  have wS : S ∉ wr := fun h => nS (W.sub _ h)
  have nm : (toString "min" ++ toString ".loop" : String) = "min.loop" := by decide
  induction k with
  | zero =>
    intro j s v c hn st hv hS hR
    have hj : j + 1 = n := hn.symm
    refine codeAny_builtin PySem.F.entry_min_loop ?_
    rw [Around.under_plainId PySem.F.plain_min_loop _]
    show wpAny _ A.in1 (seqItems? (.ref S) >>= _) _ _ s
    refine wpAny_bind (wpAny_seqItems hS rfl ?_)
    show wpAny _ A.in1 (tryCatch (pyNext (.ref I)) _ >>= _) _ _ s
    refine wpAny_bind (wpAny_tryCatch (W.done s _ _ (hj ▸ st) fun h tk hk => ?_))
    show wpAny _ A.in1 (updateSeq S (fun _ => #[]) >>= _) _ _ _
    refine wpAny_bind (wpAny_updateSeq (hk S _ wS hS) rfl (wpAny_bind (wpAny_letGo (wpAny_pure ?_))))
    exact hR v _ tk (by rw [← hj]; exact hv) fun b o b1 b2 e => (Heap.get?_update_other _ _ (Ne.symm b2)).trans (hk b o b1 e)
  | succ k ih =>
    intro j s v c hn st hv hS hR
    refine codeAny_builtin PySem.F.entry_min_loop ?_
    rw [Around.under_plainId PySem.F.plain_min_loop _]
    show wpAny _ A.in1 (seqItems? (.ref S) >>= _) _ _ s
    refine wpAny_bind (wpAny_seqItems hS rfl ?_)
    show wpAny _ A.in1 (tryCatch (pyNext (.ref I)) _ >>= _) _ _ s
    refine wpAny_bind (wpAny_tryCatch (W.item (j + 1) s _ _ (by omega) st fun x h tk hx st2 hk => ?_))
    have hS2 := hk S _ wS hS
    show wpAny _ A.in1 (tryCatch (holding [x, x] (richCompare .Lt x v >>= _)) _ >>= _) _ _ _
    refine wpAny_bind (wpAny_tryCatch (wpAny_holding (wpAny_bind (cmp (j + 1) (argBest bt j) x v _ _ _ hx hv ?_))))
    refine wpAny_bind (wpAny_holding (wpAny_truthy_bool (wpAny_bind (wpAny_letGo (wpAny_pure ?_)))))
    cases hb : bt (j + 1) (argBest bt j) with
    | true =>
      simp only [if_true]
      refine wpAny_bind (wpAny_updateSeq hS2 rfl (wpAny_bind (wpAny_letGo ?_)))
      rw [nm]
      refine wpAny_pure ⟨plainId_quiet PySem.F.plain_min_loop _, ih (j + 1) _ x _ (by omega) (W.frame _ _ _ st2 fun b b1 o e => ?_) (by simp only [argBest, hb, if_true]; exact hx) (Heap.get?_update_self _ hS2 rfl) fun y h2 tk2 hy hk2 => ?_⟩
      · exact (Heap.get?_update_other _ _ (fun q : S = b => nS (by rw [q]; exact b1))).trans e
      · exact hR y h2 tk2 hy fun b o b1 b2 e => hk2 b o b1 b2 ((Heap.get?_update_other _ _ (Ne.symm b2)).trans (hk b o b1 e))
    | false =>
      simp only [Bool.false_eq_true, if_false]
      refine wpAny_bind (wpAny_letGo ?_)
      rw [nm]
      exact wpAny_pure ⟨plainId_quiet PySem.F.plain_min_loop _, ih (j + 1) _ v c (by omega) st2 (by simp only [argBest, hb, Bool.false_eq_true, if_false]; exact hv) hS2 fun y h2 tk2 hy hk2 =>
        hR y h2 tk2 hy fun b o b1 b2 e => hk2 b o b1 b2 (hk b o b1 e)⟩
/-- the whole walk: the default where there is no item -/
theorem minD_walk (W : Walks prog w A.in1 I fp wr n P Sw) (bt : Nat → Nat → Bool) (cmp : CmpOf prog w A.in1 .Lt P bt) (nS : S ∉ fp) {s : Shared} {c : Nat} (st : Sw 0 s.heap)
    (hS : s.heap.get? S = some { cls := .type "list", dict := none, data := .seq #[] c, slots := #[] })
    (h0 : n = 0 → ∀ h tk, (∀ b o, b ∉ wr → b ≠ S → s.heap.get? b = some o → h.get? b = some o) → R (.ok (.ret d)) { s with heap := h, toks := tk })
    (hR : 0 < n → ∀ x h tk, P (argBest bt (n - 1)) x → (∀ b o, b ∉ wr → b ≠ S → s.heap.get? b = some o → h.get? b = some o) → R (.ok (.ret x)) { s with heap := h, toks := tk }) :
    codeAny (model prog w) A (.builtin "min.loop" ⟨[.ref I, .none, .ref S], dKw d⟩) R s := by
  have wS : S ∉ wr := fun h => nS (W.sub _ h)
  have nm : (toString "min" ++ toString ".loop" : String) = "min.loop" := by decide
  refine codeAny_builtin PySem.F.entry_min_loop ?_
  rw [Around.under_plainId PySem.F.plain_min_loop _]
  show wpAny _ A.in1 (seqItems? (.ref S) >>= _) _ _ s
  refine wpAny_bind (wpAny_seqItems hS rfl ?_)
  show wpAny _ A.in1 (tryCatch (pyNext (.ref I)) _ >>= _) _ _ s
  by_cases hn : n = 0
  · refine wpAny_bind (wpAny_tryCatch (W.done s _ _ (hn ▸ st) fun h tk hk => ?_))
    show wpAny _ A.in1 (rule _ >>= _) _ _ _
    refine wpAny_bind (wpAny_rule (wpAny_pure ?_))
    exact h0 hn _ tk fun b o b1 _ e => hk b o b1 e
  · refine wpAny_bind (wpAny_tryCatch (W.item 0 s _ _ (by omega) st fun x h tk hx st2 hk => ?_))
    have hS2 := hk S _ wS hS
    show wpAny _ A.in1 (updateSeq S (fun _ => #[x, x]) >>= _) _ _ _
    refine wpAny_bind (wpAny_updateSeq hS2 rfl ?_)
    rw [nm]
    refine wpAny_pure ⟨plainId_quiet PySem.F.plain_min_loop _, minD_on W bt cmp nS (n - 1) 0 _ x _ (by omega) (W.frame _ _ _ st2 fun b b1 o e => ?_) hx (Heap.get?_update_self _ hS2 rfl) fun y h2 tk2 hy hk2 => ?_⟩
    · exact (Heap.get?_update_other _ _ (fun q : S = b => nS (by rw [q]; exact b1))).trans e
    · exact hR (by omega) y h2 tk2 hy fun b o b1 b2 e => hk2 b o b1 b2 ((Heap.get?_update_other _ _ (Ne.symm b2)).trans (hk b o b1 e))
end
section
variable {prog : Program} {w : World} {A : Around} {E : Value → Shared → Prop} {s : Shared} {l : Addr} {its : List Value} {ns : List Int} {Q : Value → Shared → Prop} {d : Value}
theorem minD_raw (hh : A.handled = none) (hl : s.heap.IsList l its.toArray) (hi : IntsAre its ns)
    (h0 : ns = [] → ∀ h tk, (∀ b o, s.heap.get? b = some o → h.get? b = some o) → Q d { s with heap := h, toks := tk })
    (h : ∀ h' tk M t', (∀ b o, s.heap.get? b = some o → h'.get? b = some o) → M ∈ ns → (∀ a, a ∈ ns → M ≤ a) → Q (.int M t') { s with heap := h', toks := tk }) :
    wpAny (model prog w) A (call (.builtin "min") [.ref l] (dKw d)) Q E s := by
  obtain ⟨xs, e⟩ := hi.allInts.items
  have hn : numsOf (intItems xs).toList = ns := by rw [← e]; exact hi.numsOf
  rw [nums_intItems] at hn
  subst hn
  rw [e] at hl
  have nm : (toString "min" ++ toString ".loop" : String) = "min.loop" := by decide
  refine PyProof.Rows.kmk_tree PySem.F.kind_min PySem.F.plain_min PySem.F.entry_min (minD_args _ _) ?_
  show wpAny _ A.in1 (Builtin.Builtins.bindParams "min" ["key", "default"] 0 ⟨[], dKw d⟩ >>= _) _ _ s
  refine wpAny_bind (wpAny_of_eq (show Builtin.Builtins.bindParams "min" ["key", "default"] 0 ⟨[], dKw d⟩ = pure [none, some d] from rfl) ?_)
  refine wpAny_bind (wpAny_pure ?_)
  refine wpAny_bind (iter_intList hl fun s2 e2 st fresh nl => ?_)
  subst e2
  refine wpAny_bind (wpAny_newObj_type ?_)
  rw [nm]
  have nS : (s.heap.push { cls := .type "list_iterator", data := .fields #[.ref l, .int 0 0] }).objs.size ∉ [s.heap.objs.size, l] := fun hm => Nat.lt_irrefl _ (fresh _ hm)
  have W := Walks.list (prog := prog) (w := w) (A := A.in1) hh s.heap.objs.size l nl (intItems xs)
  have sz : (intItems xs).size = xs.size := by simp [intItems]
  have old : ∀ (h' : Heap), (∀ b o, b ∉ [s.heap.objs.size] → b ≠ (s.heap.push { cls := .type "list_iterator", data := .fields #[.ref l, .int 0 0] }).objs.size → ((s.heap.push { cls := .type "list_iterator", data := .fields #[.ref l, .int 0 0] }).push (seqObj "list" #[] 0)).get? b = some o → h'.get? b = some o) →
      ∀ b o, s.heap.get? b = some o → h'.get? b = some o := fun h' hk => old_kept fun b o nb e => hk b o nb (Nat.ne_of_lt (Heap.lt_size e)) (Heap.get?_push_of_some _ e)
  refine wpAny_pure ⟨plainId_quiet PySem.F.plain_min_loop _, minD_walk W (fun i j => decide (numAt xs i < numAt xs j)) (CmpOf.ints_lt (numAt xs) (fun _ _ => intItems_at)) nS (W.frame _ _ _ st fun b _ o e => Heap.get?_push_of_some _ e) (Heap.get?_push_size _ rfl) (fun hz h' tk hk => ?_) fun hz v h' tk hP hk => ?_⟩
  · refine h0 ?_ _ _ (old _ hk)
    rw [List.map_eq_nil_iff, Array.toList_eq_nil_iff]
    exact Array.eq_empty_of_size_eq_zero (by omega)
  · rw [sz] at hP
    obtain ⟨t, rfl⟩ := intItems_at hP
    obtain ⟨h1, h2⟩ := argBest_lt (numAt xs) (xs.size - 1)
    refine h h' tk _ t (old _ hk) ?_ fun a ha => ?_
    · rw [numAt_eq]; exact PySem.getD_mem (by rw [List.length_map, Array.length_toList]; omega)
    · obtain ⟨j, hj, rfl⟩ := mem_getD ha
      rw [List.length_map, Array.length_toList] at hj
      rw [← numAt_eq]; exact h2 j (by omega)
end
/-- min(xs, default=d), xs a list of ints -/
def rMinDf (K : PySem.W.Frag) : List V → List V → Hp → VK → Prop := fun vs zs H Q => ∃ (a : Addr) (ns : List Int) (d : V), vs = [V.ref a] ∧ zs = [d] ∧ SqL K H a (ns.map V.int) ∧ (ns = [] → Q d H) ∧ ∀ m, m ∈ ns → (∀ a, a ∈ ns → m ≤ a) → Q (.int m) H
theorem cr_minDf {X : Cx} (hc : X.calm = true) : CallRK X (.builtin "min") [Str.ofString "default"] (rMinDf X.K) := by
  intro pins s σ H vs zs us ws Q I r rz h
  obtain ⟨a, ns, d, rfl, rfl, hs, q0, q⟩ := h
  obtain ⟨its, rv, hl, _⟩ := I.list hs
  obtain rfl := Vals.ref1 r
  obtain ⟨w1, rfl, e1⟩ := vals1 rz
  refine minD_raw (d := w1) (I.ok.hd hc) hl.isList rv.ints (fun e h' tk hk => ⟨d, H, I.kept hk, e1, q0 e⟩) fun h' tk M t' hk m1 m2 => ⟨.int _, H, I.kept hk, ⟨_, rfl⟩, q _ m1 m2⟩
end L2
namespace K14
open PySem L2
open L2.My
open Met
def oV : Option Int → V
  | none => .non
  | some i => .int i
def BdAt (H : Hp) (a : Addr) (b : Bd) : Prop := H a = some (.tup [.int b.low, oV b.high, .int b.first, oV b.rounds])
theorem BdAt.same {H H' : Hp} {a : Addr} {b : Bd} (h : BdAt H a b) (s : Same H H') : BdAt H' a b := s _ _ h
def LiAt (H : Hp) (a : Addr) (xs : List Int) : Prop := H a = some (.lst (xs.map V.int))
theorem LiAt.same {H H' : Hp} {a : Addr} {b : List Int} (h : LiAt H a b) (s : Same H H') : LiAt H' a b := s _ _ h
/-- sizes of bounds -/
structure BB (n : Nat) (b : Bd) : Prop where
  low : B n b.low
  high : ∀ h, b.high = some h → B n h
  first : B n b.first
  rounds : ∀ h, b.rounds = some h → B n h
section
variable {P : Program} {w : World} {K : PySem.W.Frag} {mg : Str → Option Value} {base : Heap}
/-! ### is_wide, is_wide_place, check_counter, check_bounds: where all is well -/
def wideB (i : Int) : Prop := -(10 ^ 100) < i ∧ i < 10 ^ 100
theorem wide_of {i : Int} (h : B 300 i) : wideB i := by
  unfold B at h
  unfold wideB
  have e : (10 : Int) ^ 100 = ((10 ^ 100 : Nat) : Int) := by norm_cast
  have l : (2 : Nat) ^ 300 ≤ 10 ^ 100 := by decide +kernel
  rw [e]
  generalize (10 : Nat) ^ 100 = t at *
  generalize (2 : Nat) ^ 300 = u at *
  omega
def spWideI (K : PySem.W.Frag) : Sp := fun vs H Q _ => ∃ i, vs = [V.int i] ∧ B 300 i ∧ Q (.bl true) H
theorem scWideI : FnScope ["value"] ["value"] (defScope tWideI) := ⟨rfl, rfl, rfl, by decide +kernel, rfl, by decide +kernel, by decide +kernel⟩
theorem ok_wideI {f fW : Addr} {fd fdW : FuncData} (F : Fun K "is_wide" "is_wide" tWideI f fd) (T : Txt K mg) (dW : Dn P w K mg base CX0 "is_whole" ["value"] 1 (spWhole K) fW fdW) : FnOk P w K mg base CX0 2 f fd ["value"] (spWideI K) := by
  obtain ⟨tl, long⟩ := T.wide
  refine F.ok scWideI (fun vs H Q E h => ?_) (fun cdv A outer s H vs Q E hr h => ?_)
  · obtain ⟨i, rfl, _⟩ := h
    rfl
  · obtain ⟨i, rfl, hb, k⟩ := h
    obtain ⟨w1, w2⟩ := wide_of hb
    refine ⟨_, pss_one (ps_ret (pe_and (pe_call dW.G hr rfl dW.g dW.kp dW.b .nil pass0 (pa_cons (pv 0) pa_nil))
      (pe_one (pe_chain op_lt op_lt (pe_un un_neg (pe_glob (v := .int (10 ^ 100)) rfl long ⟨_, rfl⟩)) (pv 0) (pe_glob (v := .int (10 ^ 100)) rfl long ⟨_, rfl⟩))))), ?_⟩
    refine ⟨_, rfl, _, _, rfl, .int i, _, rfl, iteT ⟨_, rfl, _, rfl, _, _, rfl, rfl, _, rfl, ?_⟩⟩
    rw [decide_eq_true w1]
    have kk : Q (.bl (decide (i < 10 ^ 100))) H := by
      rw [decide_eq_true w2]
      exact k
    exact iteT ⟨_, _, rfl, rfl, kk⟩
def spWidePl (K : PySem.W.Frag) : Sp := fun vs H Q _ => ∃ p e, vs = [.ref p] ∧ PairAt H p e ∧ B 300 e.1 ∧ B 300 e.2 ∧ Q (.bl true) H
theorem scWidePl : FnScope ["value"] ["value"] (defScope tWidePl) := ⟨rfl, rfl, rfl, by decide +kernel, rfl, by decide +kernel, by decide +kernel⟩
theorem ok_widePl {f fP fW : Addr} {fd fdP fdW : FuncData} (F : Fun K "is_wide_place" "is_wide_place" tWidePl f fd) (dP : Dn P w K mg base CX0 "is_pair" ["value"] 2 (spPair K) fP fdP)
    (dW : Dn P w K mg base CX0 "is_wide" ["value"] 2 (spWideI K) fW fdW) : FnOk P w K mg base CX0 3 f fd ["value"] (spWidePl K) := by
  refine F.ok scWidePl (fun vs H Q E h => ?_) (fun cdv A outer s H vs Q E hr h => ?_)
  · obtain ⟨p, e, rfl, _⟩ := h
    rfl
  · obtain ⟨p, e, rfl, ep, h1, h2, k⟩ := h
    refine ⟨_, pss_one (ps_ret (pe_and (pe_call dP.G hr rfl dP.g dP.kp dP.b .nil pass0 (pa_cons (pv 0) pa_nil))
      (pe_and (pe_call dW.G hr rfl dW.g dW.kp dW.b .nil pass0 (pa_cons (pe_ix ix_tup (pv 0) pe_int (fun _ _ => rfl)) pa_nil))
      (pe_one (pe_call dW.G hr rfl dW.g dW.kp dW.b .nil pass0 (pa_cons (pe_ix ix_tup (pv 0) pe_int (fun _ _ => rfl)) pa_nil)))))), ?_⟩
    refine ⟨_, rfl, _, _, rfl, .two ep (.int _) (.int _), _, rfl, iteT ⟨_, rfl, p, _, 0, _, rfl, rfl, SqT.of ep, atI_nat (j := 0) rfl, _, rfl, h1, _, rfl, iteT ⟨_, rfl, p, _, 1, _, rfl, rfl, SqT.of ep, atI_nat (j := 1) rfl, _, rfl, h2, k⟩⟩⟩
def spCounter (K : PySem.W.Frag) : Sp := fun vs H Q _ => ∃ i, vs = [V.int i] ∧ B 300 i ∧ 0 ≤ i ∧ Q .non H
theorem scCounter : FnScope ["value"] ["value"] (defScope tCounter) := ⟨rfl, rfl, rfl, by decide +kernel, rfl, by decide +kernel, by decide +kernel⟩
theorem ok_counter {f fW : Addr} {fd fdW : FuncData} (F : Fun K "check_counter" "check_counter" tCounter f fd) (dW : Dn P w K mg base CX0 "is_wide" ["value"] 2 (spWideI K) fW fdW) : FnOk P w K mg base CX0 3 f fd ["value"] (spCounter K) := by
  refine F.ok scCounter (fun vs H Q E h => ?_) (fun cdv A outer s H vs Q E hr h => ?_)
  · obtain ⟨i, rfl, _⟩ := h
    rfl
  · obtain ⟨i, rfl, h1, h2, k⟩ := h
    refine ⟨_, pss_one (ps_if (PW.pt (pw_or (pt_not (pt_val (pe_call dW.G hr rfl dW.g dW.kp dW.b .nil pass0 (pa_cons (pv 0) pa_nil)))) (pw_or1 (pt_cmpR op_lt (pv 0) pe_int (nomark _))))) pss_never pss_nil), ?_⟩
    refine ⟨_, rfl, _, rfl, h1, _, rfl, iteF ⟨_, rfl, _, _, rfl, rfl, _, rfl, ?_⟩⟩
    rw [decide_eq_false (by omega)]
    exact iteF k
def spChkB (K : PySem.W.Frag) : Sp := fun vs H Q _ => ∃ b : Bd, vs = [.int b.low, oV b.high, .int b.first, oV b.rounds] ∧ BB 300 b ∧ 0 ≤ b.low ∧ 0 ≤ b.first ∧ (∀ r, b.rounds = some r → 0 ≤ r) ∧ Q .non H
theorem scChkB : FnScope ["low", "high", "first", "rounds"] ["low", "high", "first", "rounds"] (defScope tChkB) := ⟨rfl, rfl, rfl, by decide +kernel, rfl, by decide +kernel, by decide +kernel⟩
theorem ok_chkB {f fW fC : Addr} {fd fdW fdC : FuncData} (F : Fun K "check_bounds" "check_bounds" tChkB f fd) (dW : Dn P w K mg base CX0 "is_wide" ["value"] 2 (spWideI K) fW fdW) (dC : Dn P w K mg base CX0 "check_counter" ["value"] 3 (spCounter K) fC fdC) :
    FnOk P w K mg base CX0 4 f fd ["low", "high", "first", "rounds"] (spChkB K) := by
  refine F.ok scChkB (fun vs H Q E h => ?_) (fun cdv A outer s H vs Q E hr h => ?_)
  · obtain ⟨b, rfl, _⟩ := h
    rfl
  · obtain ⟨b, rfl, bb, l0, f0, r0, k⟩ := h
    have hr2 : Room 2 _ := hr.mono (by decide)
    refine ⟨_, pss_cons (ps_expr (pe_call dC.G hr rfl dC.g dC.kp dC.b .nil pass0 (pa_cons (pv 0) pa_nil)))
      (pss_cons (ps_if (PW.pt (pw_and (pt_cmpR op_notN (pv 1) pe_non (nomark _)) (pw_and1 (pt_not (pt_val (pe_call dW.G hr2 rfl dW.g dW.kp dW.b .nil pass0 (pa_cons (pv 1) pa_nil))))))) pss_never pss_nil)
      (pss_cons (ps_expr (pe_call dC.G hr rfl dC.g dC.kp dC.b .nil pass0 (pa_cons (pv 2) pa_nil)))
      (pss_one (ps_if (pt_cmpR op_notN (pv 3) pe_non (nomark _)) (pss_one (ps_expr (pe_call dC.G hr rfl dC.g dC.kp dC.b .nil pass0 (pa_cons (pv 3) pa_nil)))) pss_nil)))), ?_⟩
    obtain ⟨low, high, first, rounds⟩ := b
    refine ⟨_, rfl, _, rfl, bb.low, l0, _, rfl, rfl, _, rfl, ?_⟩
    have last : ∀ {X : Prop}, (X → X) := fun h => h
    cases high with
    | none =>
      refine iteF (iteF ?_)
      refine ⟨_, rfl, _, rfl, bb.first, f0, _, rfl, rfl, _, rfl, ?_⟩
      cases rounds with
      | none => exact iteF k
      | some r => exact iteT ⟨_, rfl, _, rfl, bb.rounds r rfl, r0 r rfl, k⟩
    | some h =>
      refine iteT ⟨_, rfl, _, rfl, bb.high h rfl, _, rfl, iteF ?_⟩
      refine ⟨_, rfl, _, rfl, bb.first, f0, _, rfl, rfl, _, rfl, ?_⟩
      cases rounds with
      | none => exact iteF k
      | some r => exact iteT ⟨_, rfl, _, rfl, bb.rounds r rfl, r0 r rfl, k⟩
/-! ### after, goes_up, slacks -/
def spAfter : Sp := fun vs H Q _ => ∃ p s e st i, vs = [.ref p, .ref s, .int i] ∧ PairAt H p e ∧ PairAt H s st ∧ B 2000 st.1 ∧ B 2000 st.2 ∧ B 2000 i ∧ ∀ t H', Same H H' → PairAt H' t (after e st i) → Q (.ref t) H'
theorem scAfter : FnScope ["pair", "step", "times"] ["pair", "step", "times"] (defScope tAfter) := ⟨rfl, rfl, rfl, by decide +kernel, rfl, by decide +kernel, by decide +kernel⟩
theorem ok_after {f : Addr} {fd : FuncData} (F : Fun K "after" "after" tAfter f fd) : FnOk P w K mg base CX0 1 f fd ["pair", "step", "times"] spAfter := by
  refine F.ok scAfter (fun vs H Q E h => ?_) (fun cdv A outer s H vs Q E hr h => ?_)
  · obtain ⟨p, s, e, st, i, rfl, _⟩ := h
    rfl
  · obtain ⟨p, s', e, st, i, rfl, ep, es, b1, b2, b3, k⟩ := h
    refine ⟨_, pss_one (ps_ret (pe_tup (pa_cons (pe_op op_add (pe_ix ix_tup (pv 0) pe_int (fun _ _ => rfl)) (pe_op op_mulW (pe_ix ix_tup (pv 1) pe_int (fun _ _ => rfl)) (pv 2)))
      (pa_cons (pe_op op_add (pe_ix ix_tup (pv 0) pe_int (fun _ _ => rfl)) (pe_op op_mulW (pe_ix ix_tup (pv 1) pe_int (fun _ _ => rfl)) (pv 2))) pa_nil)))), ?_⟩
    refine ⟨_, rfl, p, _, 0, _, rfl, rfl, SqT.of ep, atI_nat (j := 0) rfl, _, rfl, s', _, 0, _, rfl, rfl, SqT.of es, atI_nat (j := 0) rfl, _, rfl, _, _, rfl, rfl, b1.ml b3, _, _, rfl, rfl, ?_⟩
    refine ⟨_, rfl, p, _, 1, _, rfl, rfl, SqT.of ep, atI_nat (j := 1) rfl, _, rfl, s', _, 1, _, rfl, rfl, SqT.of es, atI_nat (j := 1) rfl, _, rfl, _, _, rfl, rfl, b2.ml b3, _, _, rfl, rfl, ?_⟩
    exact ⟨n_line, fun t nt => k t _ (grow nt) upd_same⟩
def spGoes : Sp := fun vs H Q _ => ∃ p u v, vs = [.ref p] ∧ PairAt H p (u, v) ∧ (u ≠ 0 ∨ v ≠ 0) ∧ ∀ H', Same H H' → Q (.bl (up u v)) H'
theorem scGoes : FnScope ["slopes", "slope"] ["slopes"] (defScope tGoes) := ⟨rfl, rfl, rfl, by decide +kernel, rfl, by decide +kernel, by decide +kernel⟩
theorem ok_goes {f : Addr} {fd : FuncData} (F : Fun K "goes_up" "goes_up" tGoes f fd) : FnOk P w K mg base CX0 1 f fd ["slopes"] spGoes := by
  refine F.ok scGoes (fun vs H Q E h => ?_) (fun cdv A outer s H vs Q E hr h => ?_)
  · obtain ⟨p, u, v, rfl, _⟩ := h
    rfl
  · obtain ⟨p, u, v, rfl, ep, nz, k⟩ := h
    refine ⟨_, pss_one (ps_ret (pe_cmpR op_gt (pe_ix ix_list (pe_lc (own := [("slope", 1)]) (g := gName 1) (tt := _) (by rfl) scGoes.nd (pi_tup (pv 0)) (blkOk_by (own := [("slope", 1)]) (N := ["slopes", "slope"]) (sc := defScope tGoes) (by decide +kernel))
        (fun _ _ _ _ _ => pg_name (i := 1) scGoes.nd rfl (Or.inl rfl)) (fun _ _ _ _ _ => pts_one (pt_cmpR op_ne (pv 1) pe_int (nomark _))) (fun _ _ _ _ _ => pv 1)) pe_int (fun _ _ => rfl)) pe_int (nomark _))), ?_⟩
    refine ⟨_, rfl, p, rfl, ⟨_, SqT.of ep⟩, fun D hD => lc_tup (xs := [V.int u, V.int v]) (fun i H' => Acc H D ((([u, v].take i).filter (fun z => z ≠ 0)).map V.int) H') (Acc.start hD) (fun i H' _ q => SqT.of (q.1 _ _ ep)) ?_ ?_⟩
    · intro i y H4 hy q
      obtain ⟨z, rfl, hz⟩ := int_at (xs := [u, v]) (show ([u, v].map V.int)[i]? = some y from hy)
      refine ⟨rfl, _, rfl, rfl, _, rfl, ?_⟩
      have st : (([u, v].take (i + 1)).filter (fun z => z ≠ 0)).map V.int = (([u, v].take i).filter (fun z => z ≠ 0)).map V.int ++ (([z].filter (fun z => z ≠ 0)).map V.int) := by
        rw [take_step hz, List.filter_append, List.map_append]
      by_cases c : z = 0
      · have ce : (!decide (V.int z = V.int 0)) = false := by simp [c]
        rw [ce]
        refine iteF ?_
        rw [st]
        simp only [c, ne_eq, not_true_eq_false, decide_false, List.filter_cons, Bool.false_eq_true, if_false, List.filter_nil, List.map_nil, List.append_nil]
        exact q
      · have ce : (!decide (V.int z = V.int 0)) = true := by simp [c]
        rw [ce]
        refine iteT ⟨_, rfl, _, q.2.2, ?_, ?_⟩
        · have l1 := List.length_filter_le (fun z : Int => decide (z ≠ 0)) ([u, v].take i)
          have l2 : ([u, v].take i).length ≤ 2 := by
            rw [List.length_take]
            exact Nat.min_le_right _ _
          have : (1000 : Nat) < sizeLine := by decide
          rw [List.length_map]
          omega
        · rw [st]
          simp only [c, ne_eq, not_false_eq_true, decide_true, List.filter_cons, if_true, List.filter_nil, List.map_nil, List.map_cons]
          exact q.put
    · intro H4 q
      rw [show [V.int u, V.int v].length = 2 from rfl, show [u, v].take 2 = [u, v] from rfl] at q
      have at0 : ∃ z r, (([u, v].filter (fun z => z ≠ 0)).map V.int) = V.int z :: r ∧ up u v = decide (0 < z) := by
        unfold up
        by_cases c : u = 0
        · have c2 : v ≠ 0 := by omega
          refine ⟨v, [], ?_, by rw [if_pos c]⟩
          simp [c, c2]
        · refine ⟨u, ([v].filter (fun z => z ≠ 0)).map V.int, ?_, by rw [if_neg c]⟩
          simp [c]
      obtain ⟨z, r, e1, e2⟩ := at0
      rw [e1] at q
      refine ⟨D, _, 0, _, rfl, rfl, SqL.of q.2.2, atI_nat (j := 0) rfl, _, _, rfl, rfl, ?_⟩
      have kk := k _ q.1
      rw [e2] at kk
      exact kk
def spSlacks : Sp := fun vs H Q _ => ∃ p q e b, vs = [.ref p, .ref q] ∧ PairAt H p e ∧ BdAt H q b ∧ ∀ t H', Same H H' → LiAt H' t (slacks e b) → Q (.ref t) H'
theorem scSlacks : FnScope ["pair", "bounds", "earlier", "later", "low", "high", "first", "rounds", "kept"] ["pair", "bounds"] (defScope tSlacks) := ⟨rfl, rfl, rfl, by decide +kernel, rfl, by decide +kernel, by decide +kernel⟩
theorem ok_slacks {f : Addr} {fd : FuncData} (F : Fun K "slacks" "slacks" tSlacks f fd) : FnOk P w K mg base CX0 1 f fd ["pair", "bounds"] spSlacks := by
  refine F.ok scSlacks (fun vs H Q E h => ?_) (fun cdv A outer s H vs Q E hr h => ?_)
  · obtain ⟨p, q, e, b, rfl, _⟩ := h
    rfl
  · obtain ⟨p, q, e, b, rfl, ep, eb, k⟩ := h
    refine ⟨_, pss_cons (ps_asg (pv 0) (pg_tup rfl (pgs_cons (pg_name (i := 2) scSlacks.nd rfl (.inl rfl)) (pgs_cons (pg_name (i := 3) scSlacks.nd rfl (.inl rfl)) pgs_nil))))
      (pss_cons (ps_asg (pv 1) (pg_tup rfl (pgs_cons (pg_name (i := 4) scSlacks.nd rfl (.inl rfl)) (pgs_cons (pg_name (i := 5) scSlacks.nd rfl (.inl rfl)) (pgs_cons (pg_name (i := 6) scSlacks.nd rfl (.inl rfl)) (pgs_cons (pg_name (i := 7) scSlacks.nd rfl (.inl rfl)) pgs_nil))))))
      (pss_cons (ps_set (i := 8) scSlacks.nd rfl (.inl rfl) (pe_lst (pa_cons (pe_op op_sub (pv 2) (pv 6)) (pa_cons (pe_op op_sub (pe_op op_sub (pv 3) (pv 2)) (pv 4)) pa_nil))))
      (pss_cons (ps_if (pt_cmpR op_notN (pv 5) pe_non (nomark _)) (pss_one (ps_expr (pe_bm PySem.F.plainAttrs_list PySem.F.slot_list_append PySem.F.type_list_append mt_append (pv 8) (pa_cons (pe_op op_add (pe_op op_sub (pv 5) (pv 3)) (pv 2)) pa_nil)))) pss_nil)
      (pss_cons (ps_if (pt_cmpR op_notN (pv 7) pe_non (nomark _)) (pss_one (ps_expr (pe_bm PySem.F.plainAttrs_list PySem.F.slot_list_append PySem.F.type_list_append mt_append (pv 8) (pa_cons (pe_op op_sub (pe_op op_sub (pv 7) pe_int) (pv 3)) pa_nil)))) pss_nil)
      (pss_one (ps_ret (pv 8))))))), ?_⟩
    obtain ⟨low, high, first, rounds⟩ := b
    obtain ⟨e1, e2⟩ := e
    refine ⟨_, rfl, p, _, rfl, SqT.of ep, rfl, _, _, rfl, _, _, rfl, rfl, ?_⟩
    refine ⟨_, rfl, q, _, rfl, SqT.of eb, rfl, _, _, rfl, _, _, rfl, _, _, rfl, _, _, rfl, rfl, ?_⟩
    refine ⟨_, rfl, _, rfl, _, _, rfl, rfl, _, rfl, _, rfl, _, _, rfl, rfl, _, rfl, _, _, rfl, rfl, n_line, fun l nl => ?_⟩
    have a0 : Acc H l [V.int (e1 - first), V.int (e2 - e1 - low)] (upd H l (.lst [V.int (e1 - first), V.int (e2 - e1 - low)])) := ⟨grow nl, nl, upd_same⟩
    have line : (1000 : Nat) < sizeLine := by decide
    cases high with
    | none =>
      refine ⟨_, rfl, rfl, _, rfl, iteF ?_⟩
      cases rounds with
      | none => exact ⟨_, rfl, rfl, _, rfl, iteF ⟨_, rfl, k l _ a0.1 a0.2.2⟩⟩
      | some r =>
        refine ⟨_, rfl, rfl, _, rfl, iteT ⟨_, rfl, .inl ⟨rfl, _, SqL.of a0.2.2⟩, _, rfl, _, _, rfl, rfl, _, rfl, _, _, rfl, rfl, l, _, _, rfl, rfl, a0.2.2, by simp; omega, ?_⟩⟩
        exact ⟨_, rfl, k l _ a0.put.1 a0.put.2.2⟩
    | some h =>
      refine ⟨_, rfl, rfl, _, rfl, iteT ⟨_, rfl, .inl ⟨rfl, _, SqL.of a0.2.2⟩, _, rfl, _, rfl, _, _, rfl, rfl, _, rfl, _, _, rfl, rfl, l, _, _, rfl, rfl, a0.2.2, by simp; omega, ?_⟩⟩
      have a1 := a0.put (ys := [V.int (e1 - first), V.int (e2 - e1 - low)] ++ [V.int (h - e2 + e1)])
      cases rounds with
      | none => exact ⟨_, rfl, rfl, _, rfl, iteF ⟨_, rfl, k l _ a1.1 a1.2.2⟩⟩
      | some r =>
        refine ⟨_, rfl, rfl, _, rfl, iteT ⟨_, rfl, .inl ⟨rfl, _, SqL.of a1.2.2⟩, _, rfl, _, _, rfl, rfl, _, rfl, _, _, rfl, rfl, l, _, _, rfl, rfl, a1.2.2, by simp; omega, ?_⟩⟩
        exact ⟨_, rfl, k l _ a1.put.1 a1.put.2.2⟩
end
end K14
namespace K14
open PySem L2
open L2.My
open Met
def LineAt (H : Hp) (t : Addr) (l : Line) : Prop := ∃ a b, H t = some (.tup [.ref a, .ref b]) ∧ PairAt H a l.base ∧ PairAt H b l.step
theorem LineAt.same {H H' : Hp} {t : Addr} {l : Line} (h : LineAt H t l) (s : Same H H') : LineAt H' t l := by
  obtain ⟨a, b, e, x, y⟩ := h
  exact ⟨a, b, s _ _ e, x.same s, y.same s⟩
structure LSz (l : Line) : Prop where
  b1 : B 705 l.base.1
  b2 : B 705 l.base.2
  s1 : B 300 l.step.1
  s2 : B 300 l.step.2
theorem line_sz {p q : Pr} {l : Line} (h1 : B 300 p.1) (h2 : B 300 p.2) (h3 : B 300 q.1) (h4 : B 300 q.2) (h : lineOf p q = some l) : LSz l := by
  have L := lim403 (h1.up (m := 400)) (h3.up (m := 400))
  have D := divOf_lim p.1 q.1
  unfold lineOf at h
  generalize divOf p.1 q.1 = d at D h
  by_cases c : (q.2 - p.2) % d.g ≠ 0
  · simp only [if_pos c] at h
    cases h
  · simp only [if_neg c] at h
    have h := Option.some.inj h
    subst h
    have bt : B 301 ((q.2 - p.2) / d.g) := (h4.sub h2).div
    exact ⟨((B.lim D.x L).mul bt).up, ((B.lim D.y L).neg.mul bt).up, h3.div, h1.div⟩
theorem slacks_B {n : Nat} {e : Pr} {b : Bd} (h1 : B n e.1) (h2 : B n e.2) (hb : BB n b) (n1 : 1 ≤ n := by omega) : ∀ x ∈ slacks e b, B (n + 2) x := by
  intro x m
  obtain ⟨low, high, first, rounds⟩ := b
  obtain ⟨b1, b2, b3, b4⟩ := hb
  unfold slacks at m
  rcases List.mem_append.mp m with m | m
  · rcases List.mem_append.mp m with m | m
    · simp only [List.mem_cons, List.not_mem_nil, or_false] at m
      rcases m with rfl | rfl
      · exact (h1.sub b3).up
      · exact (h2.sub h1).sub (b1.up)
    · cases high with
      | none => exact absurd m List.not_mem_nil
      | some h =>
        rw [List.mem_singleton.mp m]
        exact ((b2 h rfl).sub h2).add h1.up
  · cases rounds with
    | none => exact absurd m List.not_mem_nil
    | some r =>
      rw [List.mem_singleton.mp m]
      exact ((b4 r rfl).sub (.one n1)).sub h2.up
theorem slacks_len (e x : Pr) (b : Bd) : (slacks e b).length = (slacks x b).length := by
  unfold slacks
  cases b.high <;> cases b.rounds <;> rfl
theorem slacks_len4 (e : Pr) (b : Bd) : (slacks e b).length ≤ 4 := by
  unfold slacks
  cases b.high <;> cases b.rounds <;> simp
theorem BB.up {n m : Nat} {b : Bd} (h : BB n b) (l : n ≤ m := by omega) : BB m b := ⟨h.low.up l, fun x e => (h.high x e).up l, h.first.up l, fun x e => (h.rounds x e).up l⟩
section
variable {P : Program} {w : World} {K : PySem.W.Frag} {mg : Str → Option Value} {base : Heap}
/-! ### line_of -/
def OLine (H : Hp) (o : Option Line) (v : V) : Prop := match o with
  | none => v = .non
  | some l => ∃ t, v = .ref t ∧ LineAt H t l
theorem OLine.same {H H' : Hp} {o : Option Line} {v : V} (h : OLine H o v) (s : Same H H') : OLine H' o v := by
  cases o with
  | none => exact h
  | some l =>
    obtain ⟨t, e, x⟩ := h
    exact ⟨t, e, x.same s⟩
structure PSz (p q : Pr) : Prop where
  h1 : B 300 p.1
  h2 : B 300 p.2
  h3 : B 300 q.1
  h4 : B 300 q.2
  nz : p.1 ≠ 0 ∨ q.1 ≠ 0
def spLine : Sp := fun vs H Q _ => ∃ a b p q, vs = [.ref a, .ref b] ∧ PairAt H a p ∧ PairAt H b q ∧ PSz p q ∧ ∀ v H', Same H H' → OLine H' (lineOf p q) v → Q v H'
theorem scLine : FnScope ["place", "other", "divisor", "left", "right", "apart", "times"] ["place", "other"] (defScope tLine) := ⟨rfl, rfl, rfl, by decide +kernel, rfl, by decide +kernel, by decide +kernel⟩
theorem ok_line {f fD : Addr} {fd fdD : FuncData} (F : Fun K "line_of" "line_of" tLine f fd) (dD : Dn P w K mg base CX0 "divisor_of" ["one", "other"] 1 spDiv fD fdD) : FnOk P w K mg base CX0 2 f fd ["place", "other"] spLine := by
  refine F.ok scLine (fun vs H Q E h => ?_) (fun cdv A outer s H vs Q E hr h => ?_)
  · obtain ⟨a, b, p, q, rfl, _⟩ := h
    rfl
  · obtain ⟨a, b, p, q, rfl, ep, eq, ⟨h1, h2, h3, h4, nz⟩, k⟩ := h
    refine ⟨_, pss_cons (ps_asg (pe_call dD.G hr rfl dD.g dD.kp dD.b .nil pass0 (pa_cons (pe_ix ix_tup (pv 0) pe_int (fun _ _ => rfl)) (pa_cons (pe_ix ix_tup (pv 1) pe_int (fun _ _ => rfl)) pa_nil)))
        (pg_tup rfl (pgs_cons (pg_name (i := 2) scLine.nd rfl (.inl rfl)) (pgs_cons (pg_name (i := 3) scLine.nd rfl (.inl rfl)) (pgs_cons (pg_name (i := 4) scLine.nd rfl (.inl rfl)) pgs_nil)))))
      (pss_cons (ps_set (i := 5) scLine.nd rfl (.inl rfl) (pe_op op_sub (pe_ix ix_tup (pv 1) pe_int (fun _ _ => rfl)) (pe_ix ix_tup (pv 0) pe_int (fun _ _ => rfl))))
      (pss_cons (ps_if (pt_cmpR op_ne (pe_op op_mod (pv 5) (pv 2)) pe_int (nomark _)) (pss_one (ps_ret pe_non)) pss_nil)
      (pss_cons (ps_set (i := 6) scLine.nd rfl (.inl rfl) (pe_op op_fdivW (pv 5) (pv 2)))
      (pss_one (ps_ret (pe_tup (pa_cons (pe_tup (pa_cons (pe_op op_mulW (pv 3) (pv 6)) (pa_cons (pe_op op_mulW (pe_un un_neg (pv 4)) (pv 6)) pa_nil)))
        (pa_cons (pe_tup (pa_cons (pe_op op_fdivW (pe_ix ix_tup (pv 1) pe_int (fun _ _ => rfl)) (pv 2)) (pa_cons (pe_op op_fdivW (pe_ix ix_tup (pv 0) pe_int (fun _ _ => rfl)) (pv 2)) pa_nil))) pa_nil)))))))), ?_⟩
    have L := lim403 (h1.up (m := 400)) (h3.up (m := 400))
    have D := divOf_lim p.1 q.1
    have O := divOf_ok nz
    refine ⟨_, rfl, a, _, 0, _, rfl, rfl, SqT.of ep, atI_nat (j := 0) rfl, _, rfl, b, _, 0, _, rfl, rfl, SqT.of eq, atI_nat (j := 0) rfl, p.1, q.1, rfl, h1.up, h3.up, nz, fun t H1 s1 et => ?_⟩
    unfold lineOf at k
    generalize divOf p.1 q.1 = d at D O et k
    have bg : B 403 d.g := B.lim D.g L
    have bt : B 301 ((q.2 - p.2) / d.g) := (h4.sub h2).div
    have pos := O.pos
    refine ⟨t, _, rfl, SqT.of et, rfl, _, _, rfl, _, _, rfl, _, _, rfl, rfl, ?_⟩
    refine ⟨_, rfl, b, _, 1, _, rfl, rfl, SqT.of (s1 _ _ eq), atI_nat (j := 1) rfl, _, rfl, a, _, 1, _, rfl, rfl, SqT.of (s1 _ _ ep), atI_nat (j := 1) rfl, _, _, rfl, rfl, ?_⟩
    refine ⟨_, rfl, _, rfl, _, _, rfl, rfl, pos, rfl, _, rfl, ?_⟩
    by_cases c : (q.2 - p.2) % d.g ≠ 0
    · have ce : (!decide (V.int ((q.2 - p.2) % d.g) = V.int 0)) = true := by simp [c]
      rw [ce]
      refine iteT (k _ _ s1 ?_)
      simp only [if_pos c]
      rfl
    · have ce : (!decide (V.int ((q.2 - p.2) % d.g) = V.int 0)) = false := by
        simp only [ne_eq, Decidable.not_not] at c
        simp [c]
      rw [ce]
      refine iteF ⟨_, rfl, _, rfl, _, _, rfl, rfl, bg.dw pos, ?_⟩
      refine ⟨_, rfl, _, rfl, _, _, rfl, rfl, (B.lim D.x L).ml bt, _, rfl, _, rfl, _, rfl, _, _, rfl, rfl, (B.lim D.y L).neg.ml bt, n_line, fun p1 n1 => ?_⟩
      obtain ⟨H2, z2, s2, e2⟩ := mk_at (o := .tup [V.int (d.x * ((q.2 - p.2) / d.g)), V.int (-d.y * ((q.2 - p.2) / d.g))]) n1
      rw [z2]
      refine ⟨_, rfl, b, _, 0, _, rfl, rfl, SqT.of ((s1.trans s2) _ _ eq), atI_nat (j := 0) rfl, _, rfl, _, _, rfl, rfl, bg.dw pos, _, rfl, a, _, 0, _, rfl, rfl, SqT.of ((s1.trans s2) _ _ ep), atI_nat (j := 0) rfl, _, rfl, _, _, rfl, rfl, bg.dw pos, n_line, fun p2 n2 => ?_⟩
      obtain ⟨H3, z3, s3, e3⟩ := mk_at (o := .tup [V.int (q.1 / d.g), V.int (p.1 / d.g)]) n2
      rw [z3]
      refine ⟨n_line, fun t2 nt2 => k _ _ (s1.trans (s2.trans (s3.trans (grow nt2)))) ?_⟩
      simp only [if_neg c]
      exact ⟨t2, rfl, p1, p2, upd_same, grow nt2 _ _ (s3 _ _ e2), grow nt2 _ _ e3⟩
/-! ### limits_of -/
def OLim (H : Hp) (o : Option (List Int × List Int)) (v : V) : Prop := match o with
  | none => v = .non
  | some x => ∃ t a b, v = .ref t ∧ H t = some (.tup [.ref a, .ref b]) ∧ LiAt H a x.1 ∧ LiAt H b x.2
theorem OLim.same {H H' : Hp} {o : Option (List Int × List Int)} {v : V} (h : OLim H o v) (s : Same H H') : OLim H' o v := by
  cases o with
  | none => exact h
  | some l =>
    obtain ⟨t, a, b, e, x, y, z⟩ := h
    exact ⟨t, a, b, e, s _ _ x, y.same s, z.same s⟩
def spLimits : Sp := fun vs H Q _ => ∃ t q l b, vs = [.ref t, .ref q] ∧ LineAt H t l ∧ BdAt H q b ∧ LSz l ∧ BB 300 b ∧ ∀ v H', Same H H' → OLim H' (limits l b) v → Q v H'
theorem scLimits : FnScope ["line", "bounds", "here", "then", "starts", "ends", "slack", "next_slack", "growth"] ["line", "bounds"] (defScope tLimits) := ⟨rfl, rfl, rfl, by decide +kernel, rfl, by decide +kernel, by decide +kernel⟩
/-- two growing lists -/
structure Acc2 (H0 : Hp) (D1 D2 : Addr) (xs ys : List Int) (H : Hp) : Prop where
  same : Same H0 H
  n1 : H0 D1 = none
  n2 : H0 D2 = none
  ne : D1 ≠ D2
  a1 : LiAt H D1 xs
  a2 : LiAt H D2 ys
theorem Acc2.put1 {H0 H : Hp} {D1 D2 : Addr} {xs ys : List Int} (a : Acc2 H0 D1 D2 xs ys H) (n : Int) : Acc2 H0 D1 D2 (xs ++ [n]) ys (upd H D1 (.lst (xs.map V.int ++ [V.int n]))) :=
  ⟨fun q o e => by rw [upd_ne (ne_of_none e a.n1)]; exact a.same q o e, a.n1, a.n2, a.ne, by unfold LiAt; rw [upd_same, List.map_append]; rfl, by unfold LiAt; rw [upd_ne a.ne.symm]; exact a.a2⟩
theorem Acc2.put2 {H0 H : Hp} {D1 D2 : Addr} {xs ys : List Int} (a : Acc2 H0 D1 D2 xs ys H) (n : Int) : Acc2 H0 D1 D2 xs (ys ++ [n]) (upd H D2 (.lst (ys.map V.int ++ [V.int n]))) :=
  ⟨fun q o e => by rw [upd_ne (ne_of_none e a.n2)]; exact a.same q o e, a.n1, a.n2, a.ne, by unfold LiAt; rw [upd_ne a.ne]; exact a.a1, by unfold LiAt; rw [upd_same, List.map_append]; rfl⟩
theorem Acc2.on {H0 H H' : Hp} {D1 D2 : Addr} {xs ys : List Int} (a : Acc2 H0 D1 D2 xs ys H) (s : Same H H') : Acc2 H0 D1 D2 xs ys H' := ⟨a.same.trans s, a.n1, a.n2, a.ne, a.a1.same s, a.a2.same s⟩
theorem drop_cons {α : Type} {xs : List α} {i : Nat} {x : α} (h : xs[i]? = some x) : xs.drop i = x :: xs.drop (i + 1) := by
  obtain ⟨l, e⟩ := List.getElem?_eq_some_iff.mp h
  rw [List.drop_eq_getElem_cons l, e]
theorem ok_limits {f fS fA : Addr} {fd fdS fdA : FuncData} (F : Fun K "limits_of" "limits_of" tLimits f fd) (hzip : mg "zip" = none) (dS : Dn P w K mg base CX0 "slacks" ["pair", "bounds"] 1 spSlacks fS fdS) (dA : Dn P w K mg base CX0 "after" ["pair", "step", "times"] 1 spAfter fA fdA) :
    FnOk P w K mg base CX0 2 f fd ["line", "bounds"] spLimits := by
  refine F.ok scLimits (fun vs H Q E h => ?_) (fun cdv A outer s H vs Q E hr h => ?_)
  · obtain ⟨a, b, p, q, rfl, _⟩ := h
    rfl
  · obtain ⟨t, q, l, b, rfl, lt, eb, sz, bb, k⟩ := h
    refine ⟨_, pss_cons (ps_par (i := 2) (j := 3) rfl scLimits.nd rfl rfl (by decide) rfl rfl (pa_cons (pe_call dS.G hr rfl dS.g dS.kp dS.b .nil pass0 (pa_cons (pe_ix ix_tup (pv 0) pe_int (fun _ _ => rfl)) (pa_cons (pv 1) pa_nil)))
        (pa_cons (pe_call dS.G hr rfl dS.g dS.kp dS.b .nil pass0 (pa_cons (pe_call dA.G hr rfl dA.g dA.kp dA.b .nil pass0 (pa_cons (pe_ix ix_tup (pv 0) pe_int (fun _ _ => rfl)) (pa_cons (pe_ix ix_tup (pv 0) pe_int (fun _ _ => rfl)) (pa_cons pe_int pa_nil)))) (pa_cons (pv 1) pa_nil))) pa_nil)) (by rfl))
      (pss_cons (ps_par (i := 4) (j := 5) rfl scLimits.nd rfl rfl (by decide) rfl rfl (pa_cons (pe_lst pa_nil) (pa_cons (pe_lst pa_nil) pa_nil)) (by rfl))
      (pss_cons (ps_for PassesOwn.never rfl (RZ.pi_zipA rfl hzip (pa_cons (pv 2) (pa_cons (pv 3) pa_nil))) (pg_tup rfl (pgs_cons (pg_name (i := 6) scLimits.nd rfl (.inl rfl)) (pgs_cons (pg_name (i := 7) scLimits.nd rfl (.inl rfl)) pgs_nil)))
        (pss_cons (ps_set (i := 8) scLimits.nd rfl (.inl rfl) (pe_op op_sub (pv 7) (pv 6)))
        (pss_one (ps_if (pt_cmpR op_gt (pv 8) pe_int (nomark _)) (pss_one (ps_expr (pe_bm PySem.F.plainAttrs_list PySem.F.slot_list_append PySem.F.type_list_append mt_append (pv 4) (pa_cons (pe_un un_neg (pe_op op_fdivW (pv 6) (pv 8))) pa_nil))))
          (pss_one (ps_if (pt_cmpR op_lt (pv 8) pe_int (nomark _)) (pss_one (ps_expr (pe_bm PySem.F.plainAttrs_list PySem.F.slot_list_append PySem.F.type_list_append mt_append (pv 5) (pa_cons (pe_op op_fdivW (pv 6) (pe_un un_neg (pv 8))) pa_nil))))
            (pss_one (ps_if (pt_cmpR op_lt (pv 6) pe_int (nomark _)) (pss_one (ps_ret pe_non)) pss_nil))))))))
      (pss_one (ps_ret (pe_tup (pa_cons (pv 4) (pa_cons (pv 5) pa_nil))))))), ?_⟩
    obtain ⟨a1, a2, et, e1, e2⟩ := lt
    have line : (1000 : Nat) < sizeLine := by decide
    refine ⟨_, rfl, t, _, 0, _, rfl, rfl, SqT.of et, atI_nat (j := 0) rfl, _, rfl, a1, q, l.base, b, rfl, e1, eb, fun p1 H1 s1 l1 => ?_⟩
    refine ⟨_, rfl, t, _, 0, _, rfl, rfl, SqT.of (s1 _ _ et), atI_nat (j := 0) rfl, _, rfl, t, _, 1, _, rfl, rfl, SqT.of (s1 _ _ et), atI_nat (j := 1) rfl, a1, a2, l.base, l.step, 1, rfl, e1.same s1, e2.same s1, sz.s1.up, sz.s2.up, .one, fun p2 H2 s2 ep2 => ?_⟩
    refine ⟨_, rfl, p2, q, _, b, rfl, ep2, eb.same (s1.trans s2), fun p3 H3 s3 l3 => ?_⟩
    have l1' : LiAt H3 p1 _ := l1.same (s2.trans s3)
    have s03 := s1.trans (s2.trans s3)
    have b3 : ∀ x ∈ slacks l.base b, B 709 x := fun x m => (slacks_B (n := 705) sz.b1 sz.b2 bb.up (by omega) x m).up
    have b4 : ∀ x ∈ slacks (after l.base l.step 1) b, B 709 x := fun x m => (slacks_B (n := 706) (e := after l.base l.step 1) (sz.b1.add (by rw [Int.mul_one]; exact sz.s1.up)) (sz.b2.add (by rw [Int.mul_one]; exact sz.s2.up)) bb.up (by omega) x m).up
    have len := slacks_len l.base (after l.base l.step 1) b
    have len4 := slacks_len4 l.base b
    unfold limits at k
    generalize slacks l.base b = xs at l1' b3 len len4 k
    generalize slacks (after l.base l.step 1) b = ys at l3 b4 len k
    refine ⟨_, _, rfl, ?_⟩
    refine ⟨Nat.zero_le _, fun D1 nD1 => ?_⟩
    obtain ⟨H4, z4, s4, e4⟩ := mk_at (o := .lst []) nD1
    rw [z4]
    refine ⟨Nat.zero_le _, fun D2 nD2 => ?_⟩
    obtain ⟨H5, z5, s5, e5⟩ := mk_at (o := .lst []) nD2
    rw [z5]
    have ne12 : D1 ≠ D2 := by
      intro z
      rw [z] at e4
      rw [e4] at nD2
      cases nD2
    have A0 : Acc2 H3 D1 D2 [] [] H5 := ⟨s4.trans s5, nD1, s4.free nD2, ne12, s5 _ _ e4, e5⟩
    refine ⟨_, _, rfl, ?_⟩
    refine ⟨_, rfl, _, rfl, p1, p3, xs.map V.int, ys.map V.int, rfl, .inl ⟨SqL.of (A0.same _ _ l1'), SqL.of (A0.same _ _ l3), ?_⟩⟩
    refine for_it (walk_zip (n := xs.length) (by rw [List.length_map, List.length_map, ← len, Nat.min_self]))
      (fun i σ H' => ∃ (u v : List Int) (x6 x7 x8 : Option V), σ = [some (.ref t), some (.ref q), some (.ref p1), some (.ref p3), some (.ref D1), some (.ref D2), x6, x7, x8] ∧ Acc2 H3 D1 D2 u v H' ∧ u.length ≤ i ∧ v.length ≤ i ∧ limL ((xs.zip ys).drop i) u v = limL (xs.zip ys) [] [])
      ⟨[], [], none, none, none, rfl, A0, Nat.le_refl _, Nat.le_refl _, rfl⟩ (fun i σ H' _ ⟨_, _, _, _, _, _, a, _⟩ => ⟨SqL.of (a.same _ _ l1'), SqL.of (a.same _ _ l3)⟩) ?_ ?_
    · rintro i v σ H6 H7 hi ⟨us, vs, x6, x7, x8, rfl, a, lu, lv, ed⟩ ⟨T3, x, y, rfl, nT, rfl, hx, hy⟩
      obtain ⟨m, rfl, hm⟩ := int_at hx
      obtain ⟨n, rfl, hn⟩ := int_at hy
      obtain ⟨H8, z8, s8, e8⟩ := mk_at (o := .tup [V.int m, V.int n]) nT
      rw [z8]
      have a8 := a.on s8
      have bm := b3 m (List.mem_of_getElem? hm)
      have bn := b4 n (List.mem_of_getElem? hn)
      have hz : (xs.zip ys)[i]? = some (m, n) := by
        rw [List.getElem?_zip_eq_some]
        exact ⟨hm, hn⟩
      rw [drop_cons hz] at ed
      refine ⟨T3, _, rfl, SqT.of e8, rfl, _, _, rfl, _, _, rfl, rfl, ?_⟩
      refine ⟨_, rfl, _, rfl, _, _, rfl, rfl, ?_⟩
      refine ⟨_, rfl, _, _, rfl, rfl, _, rfl, ?_⟩
      rw [limL] at ed
      by_cases c : 0 < n - m
      · simp only [if_pos c] at ed
        rw [decide_eq_true c]
        refine iteT ⟨_, rfl, .inl ⟨rfl, _, SqL.of a8.a1⟩, _, rfl, _, rfl, _, _, rfl, rfl, (bn.sub bm).dw c, _, rfl, D1, _, _, rfl, rfl, a8.a1, by rw [List.length_map]; omega, ?_⟩
        refine ⟨_, _, _, _, _, rfl, a8.put1 _, ?_, by omega, ed⟩
        rw [List.length_append]
        show us.length + 1 ≤ i + 1
        omega
      · simp only [if_neg c] at ed
        rw [decide_eq_false c]
        refine iteF ⟨_, rfl, _, _, rfl, rfl, _, rfl, ?_⟩
        by_cases c2 : n - m < 0
        · simp only [if_pos c2] at ed
          rw [decide_eq_true c2]
          refine iteT ⟨_, rfl, .inl ⟨rfl, _, SqL.of a8.a2⟩, _, rfl, _, rfl, _, rfl, _, _, rfl, rfl, (bn.sub bm).neg.dw (by omega), D2, _, _, rfl, rfl, a8.a2, by rw [List.length_map]; omega, ?_⟩
          refine ⟨_, _, _, _, _, rfl, a8.put2 _, by omega, ?_, ed⟩
          rw [List.length_append]
          show vs.length + 1 ≤ i + 1
          omega
        · simp only [if_neg c2] at ed
          rw [decide_eq_false c2]
          refine iteF ⟨_, rfl, _, _, rfl, rfl, _, rfl, ?_⟩
          by_cases c3 : m < 0
          · simp only [if_pos c3] at ed
            rw [decide_eq_true c3]
            refine iteT (k _ _ (s03.trans a8.same) ?_)
            rw [← ed]
            rfl
          · simp only [if_neg c3] at ed
            rw [decide_eq_false c3]
            refine iteF ⟨_, _, _, _, _, rfl, a8, by omega, by omega, ed⟩
    · rintro σ H6 ⟨us, vs, x6, x7, x8, rfl, a, lu, lv, ed⟩
      have e0 : (xs.zip ys).drop xs.length = [] := by
        apply List.drop_eq_nil_of_le
        rw [List.length_zip]
        exact Nat.min_le_left _ _
      rw [e0] at ed
      refine ⟨_, rfl, _, rfl, n_line, fun t2 nt2 => k _ _ (s03.trans (a.same.trans (grow nt2))) ?_⟩
      rw [← ed]
      exact ⟨t2, D1, D2, rfl, upd_same, a.a1.same (grow nt2), a.a2.same (grow nt2)⟩
end
end K14
namespace K14
open PySem L2
open L2.My
open Met
section
variable {P : Program} {w : World} {K : PySem.W.Frag} {mg : Str → Option Value} {base : Heap}
/-! ### span_of -/
def OSpan (H : Hp) (o : Option Span) (v : V) : Prop := match o with
  | none => v = .non
  | some s => ∃ t, v = .ref t ∧ H t = some (.tup [oV s.1, oV s.2])
theorem OSpan.same {H H' : Hp} {o : Option Span} {v : V} (h : OSpan H o v) (s : Same H H') : OSpan H' o v := by
  cases o with
  | none => exact h
  | some l =>
    obtain ⟨t, e, x⟩ := h
    exact ⟨t, e, s _ _ x⟩
theorem max_oV {Q : V → Hp → Prop} {H : Hp} {ns : List Int} (k : Q (oV ns.max?) H) : (ns = [] → Q .non H) ∧ ∀ m, m ∈ ns → (∀ a, a ∈ ns → a ≤ m) → Q (.int m) H := by
  refine ⟨fun e => ?_, fun m h1 h2 => ?_⟩
  · rw [e] at k
    exact k
  · have z : ns.max? = some m := List.max?_eq_some_iff.mpr ⟨h1, h2⟩
    rw [z] at k
    exact k
theorem min_oV {Q : V → Hp → Prop} {H : Hp} {ns : List Int} (k : Q (oV ns.min?) H) : (ns = [] → Q .non H) ∧ ∀ m, m ∈ ns → (∀ a, a ∈ ns → m ≤ a) → Q (.int m) H := by
  refine ⟨fun e => ?_, fun m h1 h2 => ?_⟩
  · rw [e] at k
    exact k
  · have z : ns.min? = some m := List.min?_eq_some_iff.mpr ⟨h1, h2⟩
    rw [z] at k
    exact k
/-- max(xs, default=None), min(xs, default=None) -/
def rMaxO (K : PySem.W.Frag) : List V → List V → Hp → VK → Prop := fun vs zs H Q => ∃ (a : Addr) (ns : List Int), vs = [V.ref a] ∧ zs = [.non] ∧ SqL K H a (ns.map V.int) ∧ Q (oV ns.max?) H
def rMinO (K : PySem.W.Frag) : List V → List V → Hp → VK → Prop := fun vs zs H Q => ∃ (a : Addr) (ns : List Int), vs = [V.ref a] ∧ zs = [.non] ∧ SqL K H a (ns.map V.int) ∧ Q (oV ns.min?) H
theorem cr_maxO {X : Cx} (hc : X.calm = true) : CallRK X (.builtin "max") [Str.ofString "default"] (rMaxO X.K) := by
  intro pins s σ H vs zs us ws Q I r rz ⟨a, ns, e1, e2, hs, q⟩
  exact cr_maxDf hc pins s σ H vs zs us ws Q I r rz ⟨a, ns, .non, e1, e2, hs, max_oV q⟩
theorem cr_minO {X : Cx} (hc : X.calm = true) : CallRK X (.builtin "min") [Str.ofString "default"] (rMinO X.K) := by
  intro pins s σ H vs zs us ws Q I r rz ⟨a, ns, e1, e2, hs, q⟩
  exact cr_minDf hc pins s σ H vs zs us ws Q I r rz ⟨a, ns, .non, e1, e2, hs, min_oV q⟩
structure MTxt (mg : Str → Option Value) : Prop where
  max : mg "max" = none
  min : mg "min" = none
def spSpan : Sp := fun vs H Q _ => ∃ x o, vs = [x] ∧ OLim H o x ∧ ∀ v H', Same H H' → OSpan H' (spanOf o) v → Q v H'
theorem scSpan : FnScope ["limits", "start", "end"] ["limits"] (defScope tSpan) := ⟨rfl, rfl, rfl, by decide +kernel, rfl, by decide +kernel, by decide +kernel⟩
theorem ok_span {f : Addr} {fd : FuncData} (F : Fun K "span_of" "span_of" tSpan f fd) (T : MTxt mg) : FnOk P w K mg base CX0 1 f fd ["limits"] spSpan := by
  refine F.ok scSpan (fun vs H Q E h => ?_) (fun cdv A outer s H vs Q E hr h => ?_)
  · obtain ⟨x, o, rfl, _⟩ := h
    rfl
  · obtain ⟨x, o, rfl, ho, k⟩ := h
    refine ⟨_, pss_cons (ps_if (pt_cmpR op_isN (pv 0) pe_non (nomark _)) (pss_one (ps_ret pe_non)) pss_nil)
      (pss_cons (ps_par (i := 1) (j := 2) rfl scSpan.nd rfl rfl (by decide) rfl rfl (pa_cons (pe_callBK (cr_maxO rfl) (by rfl) T.max (by decide +kernel) (pa_cons (pe_ix ix_tup (pv 0) pe_int (fun _ _ => rfl)) pa_nil) (pk_cons pe_non pk_nil))
        (pa_cons (pe_callBK (cr_minO rfl) (by rfl) T.min (by decide +kernel) (pa_cons (pe_ix ix_tup (pv 0) pe_int (fun _ _ => rfl)) pa_nil) (pk_cons pe_non pk_nil)) pa_nil)) (by rfl))
      (pss_cons (ps_if (PW.pt (pw_and (pt_cmpR op_notN (pv 1) pe_non (nomark _)) (pw_and (pt_cmpR op_notN (pv 2) pe_non (nomark _)) (pw_and1 (pt_cmpR op_gt (pv 1) (pv 2) (nomark _)))))) (pss_one (ps_ret pe_non)) pss_nil)
      (pss_one (ps_ret (pe_tup (pa_cons (pv 1) (pa_cons (pv 2) pa_nil))))))), ?_⟩
    cases o with
    | none =>
      obtain rfl : x = .non := ho
      exact ⟨_, rfl, rfl, _, rfl, iteT (k _ _ (Same.refl _) rfl)⟩
    | some lm =>
      obtain ⟨t, a, b, rfl, et, ea, eb⟩ := ho
      obtain ⟨ss, ee⟩ := lm
      have ea : LiAt H a ss := ea
      have eb : LiAt H b ee := eb
      refine ⟨_, rfl, rfl, _, rfl, iteF ?_⟩
      have both : ∀ {R : V → V → Hp → Prop}, R (oV ss.max?) (oV ee.min?) H → True := fun _ => trivial
      refine ⟨_, rfl, t, _, 0, _, rfl, rfl, SqT.of et, atI_nat (j := 0) rfl, a, ss, rfl, rfl, SqL.of ea, ?_⟩
      refine ⟨_, rfl, t, _, 1, _, rfl, rfl, SqT.of et, atI_nat (j := 1) rfl, b, ee, rfl, rfl, SqL.of eb, ?_⟩
      refine ⟨_, _, rfl, ?_⟩
      have kk : ∀ v H', Same H H' → OSpan H' (if Met.gap ss.max? ee.min? = true then none else some (ss.max?, ee.min?)) v → Q v H' := k
      generalize ss.max? = m1 at kk ⊢
      generalize ee.min? = m2 at kk ⊢
      have fin : Met.gap m1 m2 = false → ∀ t, H t = none → Q (.ref t) (upd H t (.tup [oV m1, oV m2])) := fun g t nt => kk _ _ (grow nt) (by
        rw [if_neg (by rw [g]; decide)]
        exact ⟨t, rfl, upd_same⟩)
      cases m1 with
      | none => exact ⟨_, rfl, rfl, _, rfl, iteF (iteF ⟨_, rfl, _, rfl, n_line, fin rfl⟩)⟩
      | some u =>
        cases m2 with
        | none => exact ⟨_, rfl, rfl, _, rfl, iteT ⟨_, rfl, rfl, _, rfl, iteF (iteF ⟨_, rfl, _, rfl, n_line, fin rfl⟩)⟩⟩
        | some v =>
          refine ⟨_, rfl, rfl, _, rfl, iteT ⟨_, rfl, rfl, _, rfl, iteT ⟨_, rfl, _, rfl, _, _, rfl, rfl, _, rfl, ?_⟩⟩⟩
          by_cases c : v < u
          · rw [decide_eq_true c]
            refine iteT (kk _ _ (Same.refl _) ?_)
            rw [if_pos (show Met.gap (some u) (some v) = true from decide_eq_true c)]
            rfl
          · rw [decide_eq_false c]
            exact iteF ⟨_, rfl, _, rfl, n_line, fin (decide_eq_false c)⟩
/-! ### least_by -/
def OPair (H : Hp) (o : Option Pr) (v : V) : Prop := match o with
  | none => v = .non
  | some e => ∃ t, v = .ref t ∧ PairAt H t e
theorem OPair.same {H H' : Hp} {o : Option Pr} {v : V} (h : OPair H o v) (s : Same H H') : OPair H' o v := by
  cases o with
  | none => exact h
  | some l =>
    obtain ⟨t, e, x⟩ := h
    exact ⟨t, e, s _ _ x⟩
def SSz (s : Span) : Prop := (∀ a, s.1 = some a → B 710 a) ∧ ∀ a, s.2 = some a → B 710 a
def spLeast : Sp := fun vs H Q _ => ∃ t r p l s u v, vs = [.ref t, .ref r, .ref p] ∧ LineAt H t l ∧ H r = some (.tup [oV s.1, oV s.2]) ∧ PairAt H p (u, v) ∧ (u ≠ 0 ∨ v ≠ 0) ∧ LSz l ∧ SSz s ∧ ∀ x H', Same H H' → OPair H' (least l s u v) x → Q x H'
theorem scLeast : FnScope ["line", "span", "slopes", "end"] ["line", "span", "slopes"] (defScope tLeast) := ⟨rfl, rfl, rfl, by decide +kernel, rfl, by decide +kernel, by decide +kernel⟩
theorem ok_least {f fG fA : Addr} {fd fdG fdA : FuncData} (F : Fun K "least_by" "least_by" tLeast f fd) (dG : Dn P w K mg base CX0 "goes_up" ["slopes"] 1 spGoes fG fdG) (dA : Dn P w K mg base CX0 "after" ["pair", "step", "times"] 1 spAfter fA fdA) :
    FnOk P w K mg base CX0 2 f fd ["line", "span", "slopes"] spLeast := by
  refine F.ok scLeast (fun vs H Q E h => ?_) (fun cdv A outer s H vs Q E hr h => ?_)
  · obtain ⟨t, r, p, l, s, u, v, rfl, _⟩ := h
    rfl
  · obtain ⟨t, r, p, l, sp, u, v, rfl, lt, er, ep, nz, lz, sz, k⟩ := h
    refine ⟨_, pss_cons (ps_set (i := 3) scLeast.nd rfl (.inl rfl) (pe_ifExp (pt_val (pe_call dG.G hr rfl dG.g dG.kp dG.b .nil pass0 (pa_cons (pv 2) pa_nil))) (pe_ix ix_tup (pv 1) pe_int (fun _ _ => rfl)) (pe_ix ix_tup (pv 1) pe_int (fun _ _ => rfl))))
      (pss_one (ps_ret (pe_ifExp (pt_cmpR op_isN (pv 3) pe_non (nomark _)) pe_non (pe_call dA.G hr rfl dA.g dA.kp dA.b .nil pass0 (pa_cons (pe_ix ix_tup (pv 0) pe_int (fun _ _ => rfl)) (pa_cons (pe_ix ix_tup (pv 0) pe_int (fun _ _ => rfl)) (pa_cons (pv 3) pa_nil))))))), ?_⟩
    obtain ⟨a1, a2, et, e1, e2⟩ := lt
    have tail : ∀ (o : Option Int) (H1 : Hp), Same H H1 → (∀ a, o = some a → B 710 a) → (least l sp u v = o.map (after l.base l.step ·)) →
        (∀ (o1 : o = none), Q .non H1) ∧ (∀ a, o = some a → ∀ t' H', Same H1 H' → PairAt H' t' (after l.base l.step a) → Q (.ref t') H') := by
      intro o H1 s1 b1 el
      refine ⟨fun o1 => k _ _ s1 ?_, fun a oa t' H' s2 e' => k _ _ (s1.trans s2) ?_⟩
      · rw [el, o1]
        rfl
      · rw [el, oa]
        exact ⟨t', rfl, e'⟩
    refine ⟨_, rfl, p, u, v, rfl, ep, nz, fun H1 s1 => ⟨_, rfl, ?_⟩⟩
    cases cu : up u v with
    | true =>
      obtain ⟨k1, k2⟩ := tail sp.1 H1 s1 sz.1 (by unfold least; rw [if_pos cu])
      refine iteT ⟨_, rfl, r, _, 0, _, rfl, rfl, SqT.of (s1 _ _ er), atI_nat (j := 0) rfl, ?_⟩
      have b1 := sz.1
      generalize sp.1 = o at k1 k2 b1 ⊢
      cases o with
      | none => exact ⟨_, rfl, rfl, _, rfl, iteT (k1 rfl)⟩
      | some a => exact ⟨_, rfl, rfl, _, rfl, iteF ⟨_, rfl, t, _, 0, _, rfl, rfl, SqT.of (s1 _ _ et), atI_nat (j := 0) rfl, _, rfl, t, _, 1, _, rfl, rfl, SqT.of (s1 _ _ et), atI_nat (j := 1) rfl, _, rfl,
          a1, a2, l.base, l.step, a, rfl, e1.same s1, e2.same s1, lz.s1.up, lz.s2.up, (b1 a rfl).up, k2 a rfl⟩⟩
    | false =>
      obtain ⟨k1, k2⟩ := tail sp.2 H1 s1 sz.2 (by unfold least; rw [cu, if_neg (by decide)])
      refine iteF ⟨_, rfl, r, _, 1, _, rfl, rfl, SqT.of (s1 _ _ er), atI_nat (j := 1) rfl, ?_⟩
      have b1 := sz.2
      generalize sp.2 = o at k1 k2 b1 ⊢
      cases o with
      | none => exact ⟨_, rfl, rfl, _, rfl, iteT (k1 rfl)⟩
      | some a => exact ⟨_, rfl, rfl, _, rfl, iteF ⟨_, rfl, t, _, 0, _, rfl, rfl, SqT.of (s1 _ _ et), atI_nat (j := 0) rfl, _, rfl, t, _, 1, _, rfl, rfl, SqT.of (s1 _ _ et), atI_nat (j := 1) rfl, _, rfl,
          a1, a2, l.base, l.step, a, rfl, e1.same s1, e2.same s1, lz.s1.up, lz.s2.up, (b1 a rfl).up, k2 a rfl⟩⟩
/-! ### empty_paper -/
def PPAt (H : Hp) (t : Addr) : PP → Prop
  | .modulus g => H t = some (.tup [.str "modulus", .int g])
  | .near e => H t = some (.tup [.str "nearest", .int e.1, .int e.2])
  | .gap e => H t = some (.tup [.str "gap", .int e.1, .int e.2])
theorem PPAt.same {H H' : Hp} {t : Addr} {p : PP} (h : PPAt H t p) (s : Same H H') : PPAt H' t p := by
  cases p <;> exact s _ _ h
def LmSz (x : Option (List Int × List Int)) : Prop := ∀ y, x = some y → ∃ a, y.1.max? = some a ∧ B 710 a
def spEmpty : Sp := fun vs H Q _ => ∃ a b p q v x lm, vs = [.ref a, .ref b, v, x] ∧ PairAt H a p ∧ PairAt H b q ∧ PSz p q ∧ OLine H (lineOf p q) v ∧ (∀ l, lineOf p q = some l → OLim H lm x) ∧ LmSz lm ∧
  ∀ t H', Same H H' → PPAt H' t (match lineOf p q with | none => PP.modulus (divOf p.1 q.1).g | some l => .gap (gapAt l lm)) → Q (.ref t) H'
theorem scEmpty : FnScope ["place", "other", "line", "limits", "gap"] ["place", "other", "line", "limits"] (defScope tEmpty) := ⟨rfl, rfl, rfl, by decide +kernel, rfl, by decide +kernel, by decide +kernel⟩
theorem ok_empty {f fD fA : Addr} {fd fdD fdA : FuncData} (F : Fun K "empty_paper" "empty_paper" tEmpty f fd) (T : MTxt mg) (dD : Dn P w K mg base CX0 "divisor_of" ["one", "other"] 1 spDiv fD fdD) (dA : Dn P w K mg base CX0 "after" ["pair", "step", "times"] 1 spAfter fA fdA) :
    FnOk P w K mg base CX0 2 f fd ["place", "other", "line", "limits"] spEmpty := by
  refine F.ok scEmpty (fun vs H Q E h => ?_) (fun cdv A outer s H vs Q E hr h => ?_)
  · obtain ⟨a, b, p, q, v, x, lm, rfl, _⟩ := h
    rfl
  · obtain ⟨a, b, p, q, v, x, lm, rfl, ep, eq, ps, ol, om, lz, k⟩ := h
    refine ⟨_, pss_cons (ps_if (pt_cmpR op_isN (pv 2) pe_non (nomark _)) (pss_one (ps_ret (pe_tup (pa_cons pe_str (pa_cons (pe_ix ix_tup (pe_call dD.G hr rfl dD.g dD.kp dD.b .nil pass0 (pa_cons (pe_ix ix_tup (pv 0) pe_int (fun _ _ => rfl)) (pa_cons (pe_ix ix_tup (pv 1) pe_int (fun _ _ => rfl)) pa_nil))) pe_int (fun _ _ => rfl)) pa_nil))))) pss_nil)
      (pss_cons (ps_set (i := 4) scEmpty.nd rfl (.inl rfl) (pe_ifExp (pt_cmpR op_isN (pv 3) pe_non (nomark _)) pe_int (pe_op op_sub (pe_callB (cr_max rfl) (by rfl) T.max (by decide +kernel) (pa_cons (pe_ix ix_tup (pv 3) pe_int (fun _ _ => rfl)) pa_nil)) pe_int)))
      (pss_one (ps_ret (pe_tup (pa_cons pe_str (StX.pa_star (pe_call dA.G hr rfl dA.g dA.kp dA.b .nil pass0 (pa_cons (pe_ix ix_tup (pv 2) pe_int (fun _ _ => rfl)) (pa_cons (pe_ix ix_tup (pv 2) pe_int (fun _ _ => rfl)) (pa_cons (pv 4) pa_nil)))) pa_nil)))))), ?_⟩
    cases hl : lineOf p q with
    | none =>
      rw [hl] at ol k
      obtain rfl : v = .non := ol
      refine ⟨_, rfl, rfl, _, rfl, iteT ⟨_, rfl, a, _, 0, _, rfl, rfl, SqT.of ep, atI_nat (j := 0) rfl, _, rfl, b, _, 0, _, rfl, rfl, SqT.of eq, atI_nat (j := 0) rfl, p.1, q.1, rfl, ps.h1.up, ps.h3.up, ps.nz, fun t H1 s1 et => ?_⟩⟩
      exact ⟨t, _, 0, _, rfl, rfl, SqT.of et, atI_nat (j := 0) rfl, n_line, fun t2 nt2 => k _ _ (s1.trans (grow nt2)) upd_same⟩
    | some l =>
      rw [hl] at ol k
      obtain ⟨t, rfl, a1, a2, et, e1, e2⟩ := ol
      have om := om l hl
      have lsz := line_sz ps.h1 ps.h2 ps.h3 ps.h4 hl
      refine ⟨_, rfl, rfl, _, rfl, iteF ?_⟩
      have fin : ∀ i : Int, B 2000 i → (gapAt l lm = after l.base l.step i) → ∀ p' H', Same H H' → PairAt H' p' (after l.base l.step i) → ∀ t2, H' t2 = none → Q (.ref t2) (upd H' t2 (.tup ([V.str "gap"] ++ ([V.int (after l.base l.step i).1, V.int (after l.base l.step i).2] ++ [])))) := fun i _ eg p' H' s' e' t2 nt2 => by
        refine k _ _ (s'.trans (grow nt2)) ?_
        show PPAt _ t2 (.gap (gapAt l lm))
        rw [eg]
        exact upd_same
      cases lm with
      | none =>
        obtain rfl : x = .non := om
        refine ⟨_, rfl, rfl, _, rfl, iteT ?_⟩
        refine ⟨_, rfl, t, _, 0, _, rfl, rfl, SqT.of et, atI_nat (j := 0) rfl, _, rfl, t, _, 1, _, rfl, rfl, SqT.of et, atI_nat (j := 1) rfl, _, rfl, a1, a2, l.base, l.step, 0, rfl, e1, e2, lsz.s1.up, lsz.s2.up, B.le (.one) (by decide), fun p' H' s' e' => ?_⟩
        exact ⟨p', _, rfl, .inl (SqT.of e'), n_line, fin 0 (B.le (.one) (by decide)) rfl p' H' s' e'⟩
      | some y =>
        obtain ⟨t0, d1, d2, rfl, e0, l1, l2⟩ := om
        obtain ⟨m, hm, bm⟩ := lz y rfl
        refine ⟨_, rfl, rfl, _, rfl, iteF ⟨_, rfl, t0, _, 0, _, rfl, rfl, SqT.of e0, atI_nat (j := 0) rfl, d1, y.1, rfl, SqL.of l1, ?_, fun m' h1 h2 => ?_⟩⟩
        · have := List.length_pos_of_mem (List.max?_eq_some_iff.mp hm).1
          exact this
        · have em : m' = m := by
            have z : y.1.max? = some m' := List.max?_eq_some_iff.mpr ⟨h1, h2⟩
            rw [hm] at z
            exact (Option.some.inj z).symm
          subst em
          have b1 : B 711 (m' - 1) := bm.sub .one
          refine ⟨_, _, rfl, rfl, ?_⟩
          refine ⟨_, rfl, t, _, 0, _, rfl, rfl, SqT.of et, atI_nat (j := 0) rfl, _, rfl, t, _, 1, _, rfl, rfl, SqT.of et, atI_nat (j := 1) rfl, _, rfl, a1, a2, l.base, l.step, m' - 1, rfl, e1, e2, lsz.s1.up, lsz.s2.up, b1.up, fun p' H' s' e' => ?_⟩
          refine ⟨p', _, rfl, .inl (SqT.of e'), n_line, fin (m' - 1) b1.up ?_ p' H' s' e'⟩
          show after l.base l.step (y.1.max?.getD 0 - 1) = _
          rw [hm]
          rfl
end
end K14
namespace L2.My
open PySem PySem.Spec PyProof.Rows L2
/-- o.f = .. as one of several targets -/
def gFld (K : PySem.W.Frag) (ta : TE) (f : Str) : TG := fun v σ H Q => ta σ H fun x H1 => ∃ a C dx fs, x = .ref a ∧ H1 a = some (.ins C dx fs) ∧ Cls K C ∧ NoAttr K C f ∧ fs.length < 1000 ∧ Q σ (upd H1 a (.ins C dx (putF f v fs)))
theorem pg_fld {X : Cx} {o : Expr} {ta : TE} {f : Str} {pos : Pos} (ho : PE X o ta) : PG X (.Attribute o f pos) (gFld X.K ta f) := by
  refine ⟨fun pins s σ H v u Q I r h => ?_⟩
  rw [assign_Attribute]
  refine wpAny_bind (wpAny_holding (thn (ho.run pins s σ H _ I h) fun ov s1 ⟨x, H1, I1, r1, a, C, dx, fs, ex, ea, c, n, l, q⟩ => ?_))
  subst ex
  obtain rfl : ov = Value.ref a := r1
  refine wpAny_bind (wpAny_standAt (wpAny_bind (wpAny_holding (setattr_ok I1 ea c n l r fun s3 I3 => ?_))))
  exact wpAny_release ⟨σ, _, I3, q⟩
end L2.My
namespace K14
open PySem L2
open L2.My
open Met
/-- tuples and lists are kept -/
def TL (H H' : Hp) : Prop := (∀ b xs, H b = some (.tup xs) → H' b = some (.tup xs)) ∧ ∀ b xs, H b = some (.lst xs) → H' b = some (.lst xs)
theorem TL.of {H H' : Hp} (s : Same H H') : TL H H' := ⟨fun b xs e => s _ _ e, fun b xs e => s _ _ e⟩
theorem TL.trans {H H1 H2 : Hp} (a : TL H H1) (b : TL H1 H2) : TL H H2 := ⟨fun x xs e => b.1 _ _ (a.1 _ _ e), fun x xs e => b.2 _ _ (a.2 _ _ e)⟩
theorem PairAt.tl {H H' : Hp} {a : Addr} {e : Pr} (h : PairAt H a e) (s : TL H H') : PairAt H' a e := s.1 _ _ h
theorem BdAt.tl {H H' : Hp} {a : Addr} {b : Bd} (h : BdAt H a b) (s : TL H H') : BdAt H' a b := s.1 _ _ h
theorem LineAt.tl {H H' : Hp} {t : Addr} {l : Line} (h : LineAt H t l) (s : TL H H') : LineAt H' t l := by
  obtain ⟨a, b, e, x, y⟩ := h
  exact ⟨a, b, s.1 _ _ e, x.tl s, y.tl s⟩
theorem OLine.tl {H H' : Hp} {o : Option Line} {v : V} (h : OLine H o v) (s : TL H H') : OLine H' o v := by
  cases o with
  | none => exact h
  | some l =>
    obtain ⟨t, e, x⟩ := h
    exact ⟨t, e, x.tl s⟩
theorem OLim.tl {H H' : Hp} {o : Option (List Int × List Int)} {v : V} (h : OLim H o v) (s : TL H H') : OLim H' o v := by
  cases o with
  | none => exact h
  | some l =>
    obtain ⟨t, a, b, e, x, y, z⟩ := h
    exact ⟨t, a, b, e, s.1 _ _ x, s.2 _ _ y, s.2 _ _ z⟩
theorem OSpan.tl {H H' : Hp} {o : Option Span} {v : V} (h : OSpan H o v) (s : TL H H') : OSpan H' o v := by
  cases o with
  | none => exact h
  | some l =>
    obtain ⟨t, e, x⟩ := h
    exact ⟨t, e, s.1 _ _ x⟩
theorem OPair.tl {H H' : Hp} {o : Option Pr} {v : V} (h : OPair H o v) (s : TL H H') : OPair H' o v := by
  cases o with
  | none => exact h
  | some l =>
    obtain ⟨t, e, x⟩ := h
    exact ⟨t, e, s.1 _ _ x⟩
theorem PPAt.tl {H H' : Hp} {t : Addr} {p : PP} (h : PPAt H t p) (s : TL H H') : PPAt H' t p := by
  cases p <;> exact s.1 _ _ h
/-- all but the instance at x is kept -/
structure KT (C x : Addr) (H H' : Hp) : Prop where
  ins : ∃ dx fs, H x = some (.ins C dx fs)
  but : ∀ b o, b ≠ x → H b = some o → H' b = some o
theorem KT.tl {C x : Addr} {H H' : Hp} (k : KT C x H H') : TL H H' := by
  obtain ⟨dx, fs, e⟩ := k.ins
  refine ⟨fun b xs h => k.but _ _ ?_ h, fun b xs h => k.but _ _ ?_ h⟩
  all_goals
    intro z
    rw [z, e] at h
    cases h
theorem KT.of {C x dx : Addr} {fs : List (Str × V)} {H H' : Hp} (s : Same H H') (e : H x = some (.ins C dx fs)) : KT C x H H' := ⟨⟨dx, fs, e⟩, fun b o _ h => s _ _ h⟩
theorem KT.put {C x dx : Addr} {fs : List (Str × V)} {H : Hp} {o : HO} (e : H x = some (.ins C dx fs)) : KT C x H (upd H x o) := ⟨⟨dx, fs, e⟩, fun b o n h => by rw [upd_ne n]; exact h⟩
theorem KT.trans {C x : Addr} {H H1 H2 : Hp} (a : KT C x H H1) (b : KT C x H1 H2) : KT C x H H2 := ⟨a.ins, fun y o n h => b.but _ _ n (a.but _ _ n h)⟩
theorem KT.same {C x : Addr} {H0 H H' : Hp} (k : KT C x H H') (s : Same H0 H) (n : H0 x = none) : Same H0 H' := fun b o e => k.but _ _ (by intro z; rw [z, n] at e; cases e) (s _ _ e)
theorem len_putF (f : Str) (v : V) : ∀ fs : List (Str × V), (putF f v fs).length ≤ fs.length + 1
  | [] => Nat.le_refl _
  | (g, x) :: r => by
    show (if g = f then (g, v) :: r else (g, x) :: putF f v r).length ≤ _
    by_cases c : g = f
    · rw [if_pos c]
      simp
    · rw [if_neg c]
      have := len_putF f v r
      simp only [List.length_cons]
      omega
structure CTxt (K : PySem.W.Frag) (C : Addr) : Prop where
  cl : Cls K C
  nP : NoAttr K C "_places"
  nB : NoAttr K C "_bounds"
  nL : NoAttr K C "_line"
  nN : NoAttr K C "_nearest"
  nS : NoAttr K C "_soonest"
  nT : NoAttr K C "_latest"
  nR : NoAttr K C "_span"
  nA : NoAttr K C "_amount"
  nQ : NoAttr K C "_paper"
section
variable {P : Program} {w : World} {K : PySem.W.Frag} {mg : Str → Option Value} {base : Heap}
/-! ### _find_ends -/
def spFind (C : Addr) : Sp := fun vs H Q _ => ∃ a dx fs l s t r, vs = [.ref a] ∧ H a = some (.ins C dx fs) ∧ fs.lookup ("_line" : Str) = some (.ref t) ∧ fs.lookup ("_span" : Str) = some (.ref r) ∧ fs.length ≤ 100 ∧ LineAt H t l ∧ H r = some (.tup [oV s.1, oV s.2]) ∧ LSz l ∧ SSz s ∧
  (l.step.1 ≠ 0 ∨ l.step.2 ≠ 0) ∧ ∀ H' x y z, KT C a H H' → H' a = some (.ins C dx (putF "_amount" (oV (amountOf s)) (putF "_latest" z (putF "_soonest" y (putF "_nearest" x fs))))) →
    OPair H' (least l s (l.step.2 - l.step.1) l.step.2) x → OPair H' (least l s l.step.2 (-l.step.1)) y → OPair H' (least l s (-l.step.1) l.step.2) z → Q .non H'
theorem scFind : FnScope ["self", "line", "span", "earlier", "later"] ["self"] (defScope mFind) := ⟨rfl, rfl, rfl, by decide +kernel, rfl, by decide +kernel, by decide +kernel⟩
theorem ok_find {f fL C : Addr} {fd fdL : FuncData} (F : Fun K "_find_ends" "Meetings._find_ends" mFind f fd) (T : CTxt K C) (dL : Dn P w K mg base CX0 "least_by" ["line", "span", "slopes"] 2 spLeast fL fdL) : FnOk P w K mg base CX0 3 f fd ["self"] (spFind C) := by
  refine F.ok scFind (fun vs H Q E h => ?_) (fun cdv A outer s H vs Q E hr h => ?_)
  · obtain ⟨a, dx, fs, l, s, t, r, rfl, _⟩ := h
    rfl
  · obtain ⟨a, dx, fs, l, sp, t, r, rfl, ea, fl, fr, flen, lt, er, lz, sz, nz, k⟩ := h
    refine ⟨_, pss_cons (ps_par (i := 1) (j := 2) rfl scFind.nd rfl rfl (by decide) rfl rfl (pa_cons (pe_fld (pv 0) rfl) (pa_cons (pe_fld (pv 0) rfl) pa_nil)) (by rfl))
      (pss_cons (ps_asg (pe_ix ix_tup (pv 1) pe_int (fun _ _ => rfl)) (pg_tup rfl (pgs_cons (pg_name (i := 3) scFind.nd rfl (.inl rfl)) (pgs_cons (pg_name (i := 4) scFind.nd rfl (.inl rfl)) pgs_nil))))
      (pss_cons (ps_fld (pv 0) (pe_call dL.G hr rfl dL.g dL.kp dL.b .nil pass0 (pa_cons (pv 1) (pa_cons (pv 2) (pa_cons (pe_tup (pa_cons (pe_op op_sub (pv 4) (pv 3)) (pa_cons (pv 4) pa_nil))) pa_nil)))) rfl)
      (pss_cons (ps_fld (pv 0) (pe_call dL.G hr rfl dL.g dL.kp dL.b .nil pass0 (pa_cons (pv 1) (pa_cons (pv 2) (pa_cons (pe_tup (pa_cons (pv 4) (pa_cons (pe_un un_neg (pv 3)) pa_nil))) pa_nil)))) rfl)
      (pss_cons (ps_fld (pv 0) (pe_call dL.G hr rfl dL.g dL.kp dL.b .nil pass0 (pa_cons (pv 1) (pa_cons (pv 2) (pa_cons (pe_tup (pa_cons (pe_un un_neg (pv 3)) (pa_cons (pv 4) pa_nil))) pa_nil)))) rfl)
      (pss_one (ps_fld (pv 0) (pe_ifExp (PW.pt (pw_or (pt_cmpR op_isN (pe_ix ix_tup (pv 2) pe_int (fun _ _ => rfl)) pe_non (nomark _)) (pw_or1 (pt_cmpR op_isN (pe_ix ix_tup (pv 2) pe_int (fun _ _ => rfl)) pe_non (nomark _))))) pe_non
        (pe_op op_add (pe_op op_sub (pe_ix ix_tup (pv 2) pe_int (fun _ _ => rfl)) (pe_ix ix_tup (pv 2) pe_int (fun _ _ => rfl))) pe_int)) rfl)))))), ?_⟩
    obtain ⟨a1, a2, et, e1, e2⟩ := id lt
    have nz1 : l.step.2 - l.step.1 ≠ 0 ∨ l.step.2 ≠ 0 := by omega
    have nz2 : l.step.2 ≠ 0 ∨ -l.step.1 ≠ 0 := by omega
    have nz3 : -l.step.1 ≠ 0 ∨ l.step.2 ≠ 0 := by omega
    refine ⟨_, rfl, a, C, dx, fs, _, rfl, ea, T.cl, T.nL, fl, _, rfl, a, C, dx, fs, _, rfl, ea, T.cl, T.nR, fr, _, _, rfl, ?_⟩
    refine ⟨_, rfl, t, _, 1, _, rfl, rfl, SqT.of et, atI_nat (j := 1) rfl, a2, _, rfl, SqT.of e2, rfl, _, _, rfl, _, _, rfl, rfl, ?_⟩
    -- nearest
    refine ⟨_, rfl, _, rfl, _, rfl, _, rfl, _, _, rfl, rfl, _, rfl, n_line, fun p1 n1 => ?_⟩
    have s1 := grow (o := .tup [V.int (l.step.2 - l.step.1), V.int l.step.2]) n1
    refine ⟨t, r, p1, l, sp, _, _, rfl, lt.same s1, s1 _ _ er, upd_same, nz1, lz, sz, fun x H2 s2 ox => ?_⟩
    have s12 := s1.trans s2
    have ea2 := s12 _ _ ea
    have k1 : KT C a H (upd H2 a (.ins C dx (putF "_nearest" x fs))) := (KT.of s12 ea).trans (KT.put ea2)
    refine ⟨_, rfl, a, C, dx, _, rfl, ea2, T.cl, T.nN, by omega, ?_⟩
    have ea3 : (upd H2 a (.ins C dx (putF "_nearest" x fs))) a = some (.ins C dx (putF "_nearest" x fs)) := upd_same
    have ox3 := ox.tl (KT.put (C := C) (o := .ins C dx (putF "_nearest" x fs)) ea2).tl
    revert k1 ea3 ox3
    generalize upd H2 a (.ins C dx (putF "_nearest" x fs)) = H3
    intro k1 ea3 ox3
    have l1 := len_putF "_nearest" x fs
    -- soonest
    refine ⟨_, rfl, _, rfl, _, rfl, _, rfl, _, rfl, n_line, fun p4 n4 => ?_⟩
    have s4 := grow (o := .tup [V.int l.step.2, V.int (-l.step.1)]) n4
    refine ⟨t, r, p4, l, sp, _, _, rfl, (lt.tl k1.tl).same s4, s4 _ _ (k1.tl.1 _ _ er), upd_same, nz2, lz, sz, fun y H5 s5 oy => ?_⟩
    have s45 := s4.trans s5
    have ea5 := s45 _ _ ea3
    have k2 : KT C a H3 (upd H5 a (.ins C dx (putF "_soonest" y (putF "_nearest" x fs)))) := (KT.of s45 ea3).trans (KT.put ea5)
    refine ⟨_, rfl, a, C, dx, _, rfl, ea5, T.cl, T.nS, by omega, ?_⟩
    have ea6 : (upd H5 a (.ins C dx (putF "_soonest" y (putF "_nearest" x fs)))) a = some (.ins C dx (putF "_soonest" y (putF "_nearest" x fs))) := upd_same
    have oy6 := oy.tl (KT.put (C := C) (o := .ins C dx (putF "_soonest" y (putF "_nearest" x fs))) ea5).tl
    revert k2 ea6 oy6
    generalize upd H5 a (.ins C dx (putF "_soonest" y (putF "_nearest" x fs))) = H6
    intro k2 ea6 oy6
    have l2 := len_putF "_soonest" y (putF "_nearest" x fs)
    have k12 := k1.trans k2
    -- latest
    refine ⟨_, rfl, _, rfl, _, rfl, _, rfl, _, rfl, n_line, fun p7 n7 => ?_⟩
    have s7 := grow (o := .tup [V.int (-l.step.1), V.int l.step.2]) n7
    refine ⟨t, r, p7, l, sp, _, _, rfl, (lt.tl k12.tl).same s7, s7 _ _ (k12.tl.1 _ _ er), upd_same, nz3, lz, sz, fun z H8 s8 oz => ?_⟩
    have s78 := s7.trans s8
    have ea8 := s78 _ _ ea6
    have k3 : KT C a H6 (upd H8 a (.ins C dx (putF "_latest" z (putF "_soonest" y (putF "_nearest" x fs))))) := (KT.of s78 ea6).trans (KT.put ea8)
    refine ⟨_, rfl, a, C, dx, _, rfl, ea8, T.cl, T.nT, by omega, ?_⟩
    have ea9 : (upd H8 a (.ins C dx (putF "_latest" z (putF "_soonest" y (putF "_nearest" x fs))))) a = some (.ins C dx (putF "_latest" z (putF "_soonest" y (putF "_nearest" x fs)))) := upd_same
    have oz9 := oz.tl (KT.put (C := C) (o := .ins C dx (putF "_latest" z (putF "_soonest" y (putF "_nearest" x fs)))) ea8).tl
    revert k3 ea9 oz9
    generalize upd H8 a (.ins C dx (putF "_latest" z (putF "_soonest" y (putF "_nearest" x fs)))) = H9
    intro k3 ea9 oz9
    have l3 := len_putF "_latest" z (putF "_soonest" y (putF "_nearest" x fs))
    have k13 := k12.trans k3
    have er9 := k13.tl.1 _ _ er
    have fin : ∀ v, v = oV (amountOf sp) → ∃ (a' : Addr) (C' dx' : Addr) (fs' : List (Str × V)), V.ref a = .ref a' ∧ H9 a' = some (.ins C' dx' fs') ∧ Cls K C' ∧ NoAttr K C' "_amount" ∧ fs'.length < 1000 ∧ Q .non (upd H9 a' (.ins C' dx' (putF "_amount" v fs'))) := by
      intro v ev
      subst ev
      refine ⟨a, C, dx, _, rfl, ea9, T.cl, T.nA, by omega, ?_⟩
      have kp := KT.put (C := C) (o := .ins C dx (putF "_amount" (oV (amountOf sp)) (putF "_latest" z (putF "_soonest" y (putF "_nearest" x fs))))) ea9
      exact k _ x y z (k13.trans kp) upd_same (ox3.tl ((k2.trans k3).trans kp).tl) (oy6.tl (k3.trans kp).tl) (oz9.tl kp.tl)
    obtain ⟨m1, m2⟩ := sp
    cases m1 with
    | none =>
      refine ⟨_, rfl, r, _, 0, _, rfl, rfl, SqT.of er9, atI_nat (j := 0) rfl, rfl, _, rfl, iteT (iteT ?_)⟩
      exact ⟨_, rfl, fin .non rfl⟩
    | some u =>
      refine ⟨_, rfl, r, _, 0, _, rfl, rfl, SqT.of er9, atI_nat (j := 0) rfl, rfl, _, rfl, iteF ?_⟩
      cases m2 with
      | none =>
        refine ⟨_, rfl, r, _, 1, _, rfl, rfl, SqT.of er9, atI_nat (j := 1) rfl, rfl, _, rfl, iteT ?_⟩
        exact ⟨_, rfl, fin .non rfl⟩
      | some v =>
        refine ⟨_, rfl, r, _, 1, _, rfl, rfl, SqT.of er9, atI_nat (j := 1) rfl, rfl, _, rfl, iteF ?_⟩
        refine ⟨_, rfl, r, _, 1, _, rfl, rfl, SqT.of er9, atI_nat (j := 1) rfl, _, rfl, r, _, 0, _, rfl, rfl, SqT.of er9, atI_nat (j := 0) rfl, _, _, rfl, rfl, _, _, rfl, rfl, ?_⟩
        exact ⟨_, rfl, fin _ rfl⟩
end
end K14
namespace K14
open PySem L2
open L2.My
open Met
def flds (a b c d e f g h i : V) : List (Str × V) := [("_places", a), ("_bounds", b), ("_line", c), ("_nearest", d), ("_soonest", e), ("_latest", f), ("_span", g), ("_amount", h), ("_paper", i)]
def spanB (p q : Pr) (b : Bd) : Option Span := match lineOf p q with
  | none => none
  | some l => spanOf (limits l b)
/-- what stands in meetings -/
structure MetOf (H : Hp) (p q : Pr) (b : Bd) (ta ba : Addr) (vl vn vs vt vr : V) (t : Addr) : Prop where
  pl : ∃ pa qa, H ta = some (.tup [.ref pa, .ref qa]) ∧ PairAt H pa p ∧ PairAt H qa q
  bd : BdAt H ba b
  li : OLine H (lineOf p q) vl
  ne : OPair H (told p q b).near vn
  so : OPair H (told p q b).soon vs
  la : OPair H (told p q b).late vt
  sp : OSpan H (spanB p q b) vr
  pp : PPAt H t (paperOf p q b)
def MetAt (C : Addr) (H : Hp) (x : Addr) (p q : Pr) (b : Bd) : Prop := ∃ dx ta ba vl vn vs vt vr t, H x = some (.ins C dx (flds (.ref ta) (.ref ba) vl vn vs vt vr (oV (told p q b).amount) (.ref t))) ∧ MetOf H p q b ta ba vl vn vs vt vr t
theorem MetOf.tl {H H' : Hp} {p q : Pr} {b : Bd} {ta ba : Addr} {vl vn vs vt vr : V} {t : Addr} (m : MetOf H p q b ta ba vl vn vs vt vr t) (s : TL H H') : MetOf H' p q b ta ba vl vn vs vt vr t := by
  obtain ⟨⟨pa, qa, e, e1, e2⟩, h1, h2, h3, h4, h5, h6, h7⟩ := m
  exact ⟨⟨pa, qa, s.1 _ _ e, e1.tl s, e2.tl s⟩, h1.tl s, h2.tl s, h3.tl s, h4.tl s, h5.tl s, h6.tl s, h7.tl s⟩
theorem MetAt.same {C x : Addr} {H H' : Hp} {p q : Pr} {b : Bd} (m : MetAt C H x p q b) (s : Same H H') : MetAt C H' x p q b := by
  obtain ⟨dx, ta, ba, vl, vn, vs, vt, vr, t, e, o⟩ := m
  exact ⟨dx, ta, ba, vl, vn, vs, vt, vr, t, s _ _ e, o.tl (.of s)⟩
structure BOk (b : Bd) : Prop where
  bb : BB 300 b
  low : 0 ≤ b.low
  first : 0 ≤ b.first
  rounds : ∀ r, b.rounds = some r → 0 ≤ r
theorem lim_sz {l : Line} {b : Bd} {x : List Int × List Int} (sz : LSz l) (bb : BB 300 b) (h : limits l b = some x) : (∀ k ∈ x.1, B 710 k) ∧ ∀ k ∈ x.2, B 710 k := by
  obtain ⟨s2, e2⟩ := x
  obtain ⟨h1, h2⟩ := limL_of _ _ _ _ _ h
  have b3 : ∀ x ∈ slacks l.base b, B 709 x := fun x m => (slacks_B (n := 705) sz.b1 sz.b2 bb.up (by omega) x m).up
  have mem : ∀ {x : Int × Int}, x ∈ (slacks l.base b).zip (slacks (after l.base l.step 1) b) → B 709 x.1 := fun {x} m => b3 _ (List.of_mem_zip m).1
  refine ⟨fun k m => ?_, fun k m => ?_⟩
  · obtain ⟨y, my, _, rfl⟩ := (h1 k m).resolve_left List.not_mem_nil
    exact (mem my).div.neg.up
  · obtain ⟨y, my, _, rfl⟩ := (h2 k m).resolve_left List.not_mem_nil
    exact (mem my).div.up
theorem span_sz {l : Line} {b : Bd} {s : Span} (sz : LSz l) (bb : BB 300 b) (h : spanOf (limits l b) = some s) : SSz s := by
  cases c : limits l b with
  | none =>
    rw [c] at h
    cases h
  | some x =>
    obtain ⟨b1, b2⟩ := lim_sz sz bb c
    rw [c] at h
    have h : (if Met.gap x.1.max? x.2.min? = true then none else some (x.1.max?, x.2.min?)) = some s := h
    by_cases g : Met.gap x.1.max? x.2.min? = true
    · rw [if_pos g] at h
      cases h
    · rw [if_neg g] at h
      have h := Option.some.inj h
      subst h
      exact ⟨fun a e => b1 a (List.max?_eq_some_iff.mp e).1, fun a e => b2 a (List.min?_eq_some_iff.mp e).1⟩
theorem lm_sz {l : Line} {b : Bd} (sz : LSz l) (bb : BB 300 b) (h : spanOf (limits l b) = none) : LmSz (limits l b) := by
  intro y c
  obtain ⟨b1, b2⟩ := lim_sz sz bb c
  rw [c] at h
  have h : (if Met.gap y.1.max? y.2.min? = true then none else some (y.1.max?, y.2.min?)) = (none : Option Span) := h
  by_cases g : Met.gap y.1.max? y.2.min? = true
  · cases z : y.1.max? with
    | none =>
      rw [z] at g
      cases g
    | some a => exact ⟨a, rfl, b1 a (List.max?_eq_some_iff.mp z).1⟩
  · rw [if_neg g] at h
    cases h
def lmOf (p q : Pr) (b : Bd) : Option (List Int × List Int) := match lineOf p q with
  | none => none
  | some l => limits l b
theorem lm_span (p q : Pr) (b : Bd) : spanOf (lmOf p q b) = spanB p q b := by
  unfold lmOf spanB
  cases lineOf p q <;> rfl
theorem told_none {p q : Pr} {b : Bd} (h : spanB p q b = none) : told p q b = nought ∧ paperOf p q b = (match lineOf p q with | none => PP.modulus (divOf p.1 q.1).g | some l => .gap (gapAt l (lmOf p q b))) := by
  unfold spanB at h
  unfold told paperOf lmOf
  cases hl : lineOf p q with
  | none => exact ⟨rfl, rfl⟩
  | some l =>
    rw [hl] at h
    have h : spanOf (limits l b) = none := h
    simp only [h]
    refine ⟨?_, ?_⟩ <;> first | rfl | trivial
theorem told_some {p q : Pr} {b : Bd} {l : Line} {s : Span} (hl : lineOf p q = some l) (h : spanOf (limits l b) = some s) : told p q b = spanTold l s ∧ paperOf p q b = .near ((least l s (l.step.2 - l.step.1) l.step.2).getD (0, 0)) := by
  unfold told paperOf
  simp only [hl, h]
  refine ⟨?_, ?_⟩ <;> first | rfl | trivial
theorem span_line {p q : Pr} {b : Bd} {s : Span} (h : spanB p q b = some s) : ∃ l, lineOf p q = some l ∧ spanOf (limits l b) = some s := by
  unfold spanB at h
  cases hl : lineOf p q with
  | none =>
    rw [hl] at h
    cases h
  | some l =>
    rw [hl] at h
    exact ⟨l, rfl, h⟩
theorem if_branch {o : Option (List Int × List Int)} {ta tb : TE} {σ : L2.St} {H : Hp} {R : V → Hp → Prop} {c : Bool} (tail : ∀ v H', Same H H' → OLim H' o v → R v H') (h1 : c = true → (∀ v H', Same H H' → OLim H' o v → R v H') → ta σ H R)
    (h2 : c = false → (∀ v H', Same H H' → OLim H' o v → R v H') → tb σ H R) : if c = true then ta σ H R else tb σ H R := by
  cases c with
  | true => exact iteT (h1 rfl tail)
  | false => exact iteF (h2 rfl tail)
theorem pick {c : Prop} [Decidable c] {A R : Prop} (h : R) (h2 : c → R → A) : if decide c = true then A else R := by
  by_cases z : c
  · rw [decide_eq_true z]
    exact iteT (h2 z h)
  · rw [decide_eq_false z]
    exact iteF h
theorem iteFe {c : Bool} {A B : Prop} (h : c = false) (b : B) : if c = true then A else B := by
  rw [h]
  exact iteF b
theorem put_at {C x dx : Addr} {H : Hp} {fs fs' : List (Str × V)} (e : H x = some (.ins C dx fs)) : ∃ H', upd H x (.ins C dx fs') = H' ∧ KT C x H H' ∧ H' x = some (.ins C dx fs') := ⟨_, rfl, KT.put e, upd_same⟩
abbrev kwsI : List (Str × V) := [("low", .int 0), ("high", .non), ("first", .int 0), ("rounds", .non)]
section
variable {P : Program} {w : World} {K : PySem.W.Frag} {mg : Str → Option Value} {base : Heap}
def spInit (C : Addr) : Sp := fun vs H Q _ => ∃ H0 x dx pa qa p q b, vs = [.ref x, .ref pa, .ref qa, .int b.low, oV b.high, .int b.first, oV b.rounds] ∧ Same H0 H ∧ H0 x = none ∧ H x = some (.ins C dx []) ∧ PairAt H pa p ∧ PairAt H qa q ∧ PSz p q ∧ BOk b ∧
  ∀ H', Same H0 H' → MetAt C H' x p q b → Q .non H'
theorem scInit : FnScope ["self", "place", "other", "low", "high", "first", "rounds", "limits"] ["self", "place", "other", "low", "high", "first", "rounds"] (defScope mInit) := ⟨rfl, rfl, rfl, by decide +kernel, rfl, by decide +kernel, by decide +kernel⟩
theorem ok_init {f fW fC fL fM fS fE fF C : Addr} {fd fdW fdC fdL fdM fdS fdE fdF : FuncData} (F : FunD K "__init__" "Meetings.__init__" (defArgs mInit) (defBody mInit) (defScope mInit) [] kwsI f fd) (T : CTxt K C)
    (dW : Dn P w K mg base CX0 "is_wide_place" ["value"] 3 (spWidePl K) fW fdW) (dC : Dn P w K mg base CX0 "check_bounds" ["low", "high", "first", "rounds"] 4 (spChkB K) fC fdC) (dL : Dn P w K mg base CX0 "line_of" ["place", "other"] 2 spLine fL fdL)
    (dM : Dn P w K mg base CX0 "limits_of" ["line", "bounds"] 2 spLimits fM fdM) (dS : Dn P w K mg base CX0 "span_of" ["limits"] 1 spSpan fS fdS) (dE : Dn P w K mg base CX0 "empty_paper" ["place", "other", "line", "limits"] 2 spEmpty fE fdE)
    (GF : FnOk P w K mg base CX0 3 fF fdF ["self"] (spFind C)) (bF : Binds K fdF ["self"] []) (mF : Meth K C "_find_ends" fF) :
    FnOk P w K mg base CX0 5 f fd ["self", "place", "other", "low", "high", "first", "rounds"] (spInit C) := by
  refine F.ok scInit (fun vs H Q E h => ?_) (fun cdv A outer s H vs Q E hr h => ?_)
  · obtain ⟨H0, x, dx, pa, qa, p, q, b, rfl, _⟩ := h
    rfl
  · obtain ⟨H0, x, dx, pa, qa, p, q, b, rfl, s0, nx, ex, ep, eq, ps, bo, k⟩ := h
    have hr3 : Room 3 _ := hr.mono (by decide)
    have hr2 : Room 2 _ := hr.mono (by decide)
    have hr1 : Room 1 _ := hr.mono (by decide)
    refine ⟨_, pss_cons (ps_if (PW.pt (pw_or (pt_not (pt_val (pe_call dW.G hr3 rfl dW.g dW.kp dW.b .nil pass0 (pa_cons (pv 1) pa_nil)))) (pw_or1 (pt_not (pt_val (pe_call dW.G hr3 rfl dW.g dW.kp dW.b .nil pass0 (pa_cons (pv 2) pa_nil))))))) pss_never pss_nil)
      (pss_cons (ps_expr (pe_call dC.G hr rfl dC.g dC.kp dC.b .nil pass0 (pa_cons (pv 3) (pa_cons (pv 4) (pa_cons (pv 5) (pa_cons (pv 6) pa_nil))))))
      (pss_cons (ps_if (PW.pt (pw_and (pt_cmpR op_eq (pe_ix ix_tup (pv 1) pe_int (fun _ _ => rfl)) pe_int (nomark _)) (pw_and1 (pt_cmpR op_eq (pe_ix ix_tup (pv 2) pe_int (fun _ _ => rfl)) pe_int (nomark _))))) pss_never pss_nil)
      (pss_cons (ps_fld (pv 0) (pe_tup (pa_cons (pv 1) (pa_cons (pv 2) pa_nil))) rfl)
      (pss_cons (ps_fld (pv 0) (pe_tup (pa_cons (pv 3) (pa_cons (pv 4) (pa_cons (pv 5) (pa_cons (pv 6) pa_nil))))) rfl)
      (pss_cons (ps_fld (pv 0) (pe_call dL.G hr2 rfl dL.g dL.kp dL.b .nil pass0 (pa_cons (pv 1) (pa_cons (pv 2) pa_nil))) rfl)
      (pss_cons (ps_asg3 pe_non (pg_fld (pv 0)) (pg_fld (pv 0)) (pg_fld (pv 0)))
      (pss_cons (ps_set (i := 7) scInit.nd rfl (.inl rfl) (pe_ifExp (pt_cmpR op_isN (pe_fld (pv 0) rfl) pe_non (nomark _)) pe_non (pe_call dM.G hr2 rfl dM.g dM.kp dM.b .nil pass0 (pa_cons (pe_fld (pv 0) rfl) (pa_cons (pe_fld (pv 0) rfl) pa_nil)))))
      (pss_cons (ps_fld (pv 0) (pe_call dS.G hr1 rfl dS.g dS.kp dS.b .nil pass0 (pa_cons (pv 7) pa_nil)) rfl)
      (pss_one (ps_if (pt_cmpR op_isN (pe_fld (pv 0) rfl) pe_non (nomark _))
        (pss_cons (ps_fld (pv 0) pe_int rfl) (pss_one (ps_fld (pv 0) (pe_call dE.G hr2 rfl dE.g dE.kp dE.b .nil pass0 (pa_cons (pv 1) (pa_cons (pv 2) (pa_cons (pe_fld (pv 0) rfl) (pa_cons (pv 7) pa_nil))))) rfl)))
        (pss_cons (ps_expr (pe_meth0 (pv 0) T.cl mF GF hr3 bF .nil pass0)) (pss_one (ps_fld (pv 0) (pe_tup (pa_cons pe_str (StX.pa_star (pe_fld (pv 0) rfl) pa_nil))) rfl))))))))))))), ?_⟩
    have b1 := bo.bb.low
    -- the checks
    refine ⟨_, rfl, pa, p, rfl, ep, ps.h1, ps.h2, _, rfl, iteF ⟨_, rfl, qa, q, rfl, eq, ps.h3, ps.h4, _, rfl, iteF ?_⟩⟩
    refine ⟨_, rfl, _, rfl, _, rfl, _, rfl, b, rfl, bo.bb, bo.low, bo.first, bo.rounds, ?_⟩
    refine ⟨_, rfl, pa, _, 0, _, rfl, rfl, SqT.of ep, atI_nat (j := 0) rfl, rfl, _, rfl, pick ?_ (fun hc r => ⟨_, rfl, qa, _, 0, _, rfl, rfl, SqT.of eq, atI_nat (j := 0) rfl, rfl, _, rfl, iteFe ?_ r⟩)⟩
    case refine_2 =>
      have z : p.1 = 0 := V.int.inj hc
      have nz := ps.nz
      have z2 : q.1 ≠ 0 := by omega
      exact decide_eq_false fun e => z2 (V.int.inj e)
    -- _places
    refine ⟨_, rfl, _, rfl, n_line, fun ta nta => ?_⟩
    obtain ⟨H1, z1, s1, e1⟩ := mk_at (o := .tup [.ref pa, .ref qa]) nta
    rw [z1]
    have x1 := s1 _ _ ex
    refine ⟨_, rfl, x, C, dx, [], rfl, x1, T.cl, T.nP, (by decide), ?_⟩
    obtain ⟨H2, z2, k2, x2⟩ := put_at (fs' := putF "_places" (.ref ta) []) x1
    rw [z2]
    have t2 : TL H H2 := (TL.of s1).trans k2.tl
    have et2 := k2.tl.1 _ _ e1
    -- _bounds
    refine ⟨_, rfl, _, rfl, _, rfl, _, rfl, n_line, fun ba nba => ?_⟩
    obtain ⟨H3, z3, s3, e3⟩ := mk_at (o := .tup [.int b.low, oV b.high, .int b.first, oV b.rounds]) nba
    rw [z3]
    have x3 := s3 _ _ x2
    refine ⟨_, rfl, x, C, dx, _, rfl, x3, T.cl, T.nB, (by show 1 < 1000; decide), ?_⟩
    obtain ⟨H4, z4, k4, x4⟩ := put_at (fs' := putF "_bounds" (.ref ba) (putF "_places" (.ref ta) [])) x3
    rw [z4]
    have eb4 : BdAt H4 ba b := k4.tl.1 _ _ e3
    have t24 : TL H2 H4 := (TL.of s3).trans k4.tl
    have t4 := t2.trans t24
    have kk4 : KT C x H H4 := ((KT.of s1 ex).trans k2).trans ((KT.of s3 x2).trans k4)
    -- _line
    refine ⟨_, rfl, _, rfl, pa, qa, p, q, rfl, ep.tl t4, eq.tl t4, ps, fun vl H5 s5 ol => ?_⟩
    have x5 := s5 _ _ x4
    refine ⟨_, rfl, x, C, dx, _, rfl, x5, T.cl, T.nL, (by show 2 < 1000; decide), ?_⟩
    obtain ⟨H6, z6, k6, x6⟩ := put_at (fs' := putF "_line" vl (putF "_bounds" (.ref ba) (putF "_places" (.ref ta) []))) x5
    rw [z6]
    have ol6 := ol.tl k6.tl
    have kk6 : KT C x H H6 := kk4.trans ((KT.of s5 x4).trans k6)
    have t46 : TL H4 H6 := (TL.of s5).trans k6.tl
    -- _nearest = _soonest = _latest = None
    refine ⟨_, rfl, x, C, dx, _, rfl, x6, T.cl, T.nN, (by show 3 < 1000; decide), ?_⟩
    obtain ⟨H7, z7, k7, x7⟩ := put_at (fs' := putF "_nearest" .non (putF "_line" vl (putF "_bounds" (.ref ba) (putF "_places" (.ref ta) [])))) x6
    rw [z7]
    refine ⟨_, rfl, x, C, dx, _, rfl, x7, T.cl, T.nS, (by show 4 < 1000; decide), ?_⟩
    obtain ⟨H8, z8, k8, x8⟩ := put_at (fs' := putF "_soonest" .non (putF "_nearest" .non (putF "_line" vl (putF "_bounds" (.ref ba) (putF "_places" (.ref ta) []))))) x7
    rw [z8]
    refine ⟨_, rfl, x, C, dx, _, rfl, x8, T.cl, T.nT, (by show 5 < 1000; decide), ?_⟩
    obtain ⟨H9, z9, k9, x9⟩ := put_at (fs' := [("_places", .ref ta), ("_bounds", .ref ba), ("_line", vl), ("_nearest", .non), ("_soonest", .non), ("_latest", .non)]) x8
    refine (?_ : (_ : Hp → Prop) (upd H8 x (.ins C dx [("_places", .ref ta), ("_bounds", .ref ba), ("_line", vl), ("_nearest", .non), ("_soonest", .non), ("_latest", .non)])))
    rw [z9]
    have k69 := (k7.trans k8).trans k9
    have kk9 := kk6.trans k69
    have t69 := k69.tl
    have t9 := kk9.tl
    have ol9 := ol6.tl t69
    -- limits
    obtain ⟨lm, hlm⟩ : ∃ lm, lm = lmOf p q b := ⟨_, rfl⟩
    refine ⟨_, rfl, x, C, dx, _, vl, rfl, x9, T.cl, T.nL, rfl, rfl, _, rfl, if_branch (o := lm) ?_ (fun hc tl => ?_) (fun hc tl => ?_)⟩
    case refine_2 =>
      have z : vl = .non := of_decide_eq_true hc
      refine tl _ _ (Same.refl _) ?_
      have hl : lineOf p q = none := by
        cases hl : lineOf p q with
        | none => rfl
        | some l =>
          rw [hl] at ol9
          obtain ⟨t, e, _⟩ := ol9
          rw [z] at e
          cases e
      rw [hlm]
      unfold lmOf
      rw [hl]
      rfl
    case refine_3 =>
      have z : vl ≠ .non := of_decide_eq_false hc
      cases hl : lineOf p q with
      | none =>
        rw [hl] at ol9
        exact absurd ol9 z
      | some l =>
        rw [hl] at ol9
        obtain ⟨t, rfl, lt⟩ := ol9
        refine ⟨_, rfl, x, C, dx, _, _, rfl, x9, T.cl, T.nL, rfl, _, rfl, x, C, dx, _, _, rfl, x9, T.cl, T.nB, rfl, t, ba, l, b, rfl, lt, eb4.tl (t46.trans t69), line_sz ps.h1 ps.h2 ps.h3 ps.h4 hl, bo.bb, fun v H' s' o' => tl _ _ s' ?_⟩
        rw [hlm]
        unfold lmOf
        rw [hl]
        exact o'
    intro vm H10 s10 om
    have x10 := s10 _ _ x9
    -- _span
    refine ⟨_, rfl, vm, lm, rfl, om, fun vr H11 s11 os => ?_⟩
    have x11 := s11 _ _ x10
    refine ⟨_, rfl, x, C, dx, _, rfl, x11, T.cl, T.nR, (by show 6 < 1000; decide), ?_⟩
    obtain ⟨H12, z12, k12, x12⟩ := put_at (fs' := putF "_span" vr [("_places", .ref ta), ("_bounds", .ref ba), ("_line", vl), ("_nearest", .non), ("_soonest", .non), ("_latest", .non)]) x11
    rw [z12]
    have k9c : KT C x H9 H12 := ((KT.of s10 x9).trans (KT.of s11 x10)).trans k12
    have t9c := k9c.tl
    have om12 : OLim H12 lm vm := om.tl ((TL.of s11).trans k12.tl)
    have os12 := os.tl k12.tl
    have ol12 := ol9.tl t9c
    have tC := t9.trans t9c
    have et12 := ((t24.trans t46).trans (t69.trans t9c)).1 _ _ et2
    have eb12 := eb4.tl ((t46.trans t69).trans t9c)
    have kkC := kk9.trans k9c
    have esp : spanOf lm = spanB p q b := by
      rw [hlm]
      exact lm_span p q b
    rw [esp] at os12
    cases hs : spanB p q b with
    | none =>
      rw [hs] at os12
      obtain rfl : vr = .non := os12
      obtain ⟨et, ept⟩ := told_none hs
      refine ⟨_, rfl, x, C, dx, _, _, rfl, x12, T.cl, T.nR, rfl, rfl, _, rfl, iteT ?_⟩
      refine ⟨_, rfl, x, C, dx, _, rfl, x12, T.cl, T.nA, (by show 7 < 1000; decide), ?_⟩
      obtain ⟨H13, z13, k13, x13⟩ := put_at (fs' := putF "_amount" (.int 0) [("_places", .ref ta), ("_bounds", .ref ba), ("_line", vl), ("_nearest", .non), ("_soonest", .non), ("_latest", .non), ("_span", .non)]) x12
      refine (?_ : (_ : Hp → Prop) (upd H12 x (.ins C dx (putF "_amount" (.int 0) [("_places", .ref ta), ("_bounds", .ref ba), ("_line", vl), ("_nearest", .non), ("_soonest", .non), ("_latest", .non), ("_span", .non)]))))
      rw [z13]
      have tD := tC.trans k13.tl
      refine ⟨_, rfl, _, rfl, _, rfl, x, C, dx, _, _, rfl, x13, T.cl, T.nL, rfl, _, rfl, pa, qa, p, q, vl, vm, lm, rfl, ep.tl tD, eq.tl tD, ps, ol12.tl k13.tl, fun _ _ => om12.tl k13.tl, ?_, fun t H14 s14 pp => ?_⟩
      · rw [hlm]
        unfold lmOf
        cases hl : lineOf p q with
        | none =>
          intro y e
          cases e
        | some l =>
          refine lm_sz (line_sz ps.h1 ps.h2 ps.h3 ps.h4 hl) bo.bb ?_
          unfold spanB at hs
          rw [hl] at hs
          exact hs
      · have x14 := s14 _ _ x13
        refine ⟨_, rfl, x, C, dx, _, rfl, x14, T.cl, T.nQ, (by show 8 < 1000; decide), ?_⟩
        have k14 := KT.put (C := C) (o := .ins C dx (flds (.ref ta) (.ref ba) vl .non .non .non .non (.int 0) (.ref t))) x14
        have tE : TL H12 _ := (k13.tl.trans (TL.of s14)).trans k14.tl
        refine k _ (((kkC.trans k13).trans ((KT.of s14 x13).trans k14)).same s0 nx) ⟨dx, ta, ba, vl, .non, .non, .non, .non, t, ?_, ⟨pa, qa, tE.1 _ _ et12, ep.tl (tC.trans tE), eq.tl (tC.trans tE)⟩, eb12.tl tE, ol12.tl tE, ?_, ?_, ?_, ?_, ?_⟩
        · rw [et]
          exact upd_same
        · rw [et]
          rfl
        · rw [et]
          rfl
        · rw [et]
          rfl
        · rw [hs]
          rfl
        · rw [ept, ← hlm]
          exact pp.tl k14.tl
    | some sp =>
      rw [hs] at os12
      obtain ⟨r, rfl, er⟩ := os12
      obtain ⟨l, hl, hsp⟩ := span_line hs
      obtain ⟨et, ept⟩ := told_some hl hsp
      obtain ⟨e, he, hn⟩ := paper_near ps.nz hl hsp
      have lsz := line_sz ps.h1 ps.h2 ps.h3 ps.h4 hl
      have ol12' := ol12
      rw [hl] at ol12'
      obtain ⟨tl, rfl, lt⟩ := ol12'
      refine ⟨_, rfl, x, C, dx, _, _, rfl, x12, T.cl, T.nR, rfl, rfl, _, rfl, iteF ?_⟩
      refine ⟨_, rfl, x, dx, _, rfl, x12, rfl, x, dx, _, l, sp, tl, r, rfl, x12, rfl, rfl, (by show 7 ≤ 100; decide), lt, er, lsz, span_sz lsz bo.bb hsp, (line_some ps.nz hl).2, fun H13 vx vy vz k13 x13 o1 o2 o3 => ?_⟩
      have o1' := o1
      rw [he] at o1'
      obtain ⟨tn, rfl, en⟩ := o1'
      refine ⟨_, rfl, x, C, dx, _, _, rfl, x13, T.cl, T.nN, rfl, tn, _, rfl, .inl (SqT.of en), n_line, fun t nt => ?_⟩
      have s14 : Same H13 (upd H13 t (.tup [V.str "nearest", V.int e.1, V.int e.2])) := grow nt
      have e14 : (upd H13 t (.tup [V.str "nearest", V.int e.1, V.int e.2])) t = some (.tup [V.str "nearest", V.int e.1, V.int e.2]) := upd_same
      have x14 := s14 _ _ x13
      refine ⟨_, rfl, x, C, dx, _, rfl, x14, T.cl, T.nQ, (by show 8 < 1000; decide), ?_⟩
      have k14 := KT.put (C := C) (o := .ins C dx (flds (.ref ta) (.ref ba) (.ref tl) (.ref tn) vy vz (.ref r) (oV (amountOf sp)) (.ref t))) x14
      have tE : TL H12 _ := (k13.tl.trans (TL.of s14)).trans k14.tl
      have tF : TL H13 _ := (TL.of s14).trans k14.tl
      refine k _ (((kkC.trans k13).trans ((KT.of s14 x13).trans k14)).same s0 nx) ⟨dx, ta, ba, .ref tl, .ref tn, vy, vz, .ref r, t, ?_, ⟨pa, qa, tE.1 _ _ et12, ep.tl (tC.trans tE), eq.tl (tC.trans tE)⟩, eb12.tl tE, ol12.tl tE, ?_, ?_, ?_, ?_, ?_⟩
      · rw [et]
        exact upd_same
      · rw [et]
        exact o1.tl tF
      · rw [et]
        exact o2.tl tF
      · rw [et]
        exact o3.tl tF
      · rw [hs]
        exact ⟨r, rfl, tE.1 _ _ er⟩
      · rw [ept, he]
        exact (show PPAt _ t (.near e) from e14).tl k14.tl
end
end K14
namespace K14
open PySem L2
open L2.My
open Met
theorem sl_go2 {K : PySem.W.Frag} {H : Hp} {a : Addr} {xs : List V} {lo hi : Option Int} {Q : VK} (e : H a = some (.tup xs)) (k : ∀ b H', Same H H' → H' b = some (.tup (cutV xs lo hi)) → Q (.ref b) H') : rSlA K (.ref a) lo hi H Q := by
  refine ⟨a, xs, rfl, SqT.of e, fun z => k a H (Same.refl H) ?_, fun _ p np => k p _ (grow np) upd_same⟩
  have c : cutV xs lo hi = xs := by
    unfold cutV
    rw [z.1, z.2]
    simp
  rw [c]
  exact e
/-- a property as its readers see it -/
structure Pn (P : Program) (w : World) (K : PySem.W.Frag) (mg : Str → Option Value) (base : Heap) (C : Addr) (x : Str) (sp : Sp) (p g : Addr) (fd : FuncData) : Prop where
  G : FnOk P w K mg base CX0 1 g fd ["self"] sp
  h : PropOf K C x p g
  b : Binds K fd ["self"] []
section
variable {P : Program} {w : World} {K : PySem.W.Frag} {mg : Str → Option Value} {base : Heap}
/-! ### the properties -/
def spGP (C : Addr) : Sp := fun vs H Q _ => ∃ x p q b, vs = [.ref x] ∧ MetAt C H x p q b ∧ ∀ a, PairAt H a p → Q (.ref a) H
def spGO (C : Addr) : Sp := fun vs H Q _ => ∃ x p q b, vs = [.ref x] ∧ MetAt C H x p q b ∧ ∀ a, PairAt H a q → Q (.ref a) H
def spGB (C : Addr) (f : Bd → V) : Sp := fun vs H Q _ => ∃ x p q b, vs = [.ref x] ∧ MetAt C H x p q b ∧ Q (f b) H
def spGN (C : Addr) : Sp := fun vs H Q _ => ∃ x p q b, vs = [.ref x] ∧ MetAt C H x p q b ∧ ∀ v, OPair H (told p q b).near v → Q v H
def spGQ (C : Addr) : Sp := fun vs H Q _ => ∃ x p q b, vs = [.ref x] ∧ MetAt C H x p q b ∧ ∀ t, PPAt H t (paperOf p q b) → Q (.ref t) H
theorem scP : FnScope ["self"] ["self"] (defScope mPlace) := ⟨rfl, rfl, rfl, by decide +kernel, rfl, by decide +kernel, by decide +kernel⟩
theorem ok_gP {f C : Addr} {fd : FuncData} (F : Fun K "place" "Meetings.place" mPlace f fd) (T : CTxt K C) : FnOk P w K mg base CX0 1 f fd ["self"] (spGP C) := by
  refine F.ok scP (fun vs H Q E h => ?_) (fun cdv A outer s H vs Q E hr h => ?_)
  · obtain ⟨x, p, q, b, rfl, _⟩ := h
    rfl
  · obtain ⟨x, p, q, b, rfl, ⟨dx, ta, ba, vl, vn, vs, vt, vr, t, e, o⟩, k⟩ := h
    obtain ⟨pa, qa, et, ep, eq⟩ := o.pl
    refine ⟨_, pss_one (ps_ret (pe_ix ix_tup (pe_fld (pv 0) rfl) pe_int (fun _ _ => rfl))), ?_⟩
    exact ⟨_, rfl, x, C, dx, _, _, rfl, e, T.cl, T.nP, rfl, ta, _, 0, _, rfl, rfl, SqT.of et, atI_nat (j := 0) rfl, k pa ep⟩
theorem scO : FnScope ["self"] ["self"] (defScope mOther) := ⟨rfl, rfl, rfl, by decide +kernel, rfl, by decide +kernel, by decide +kernel⟩
theorem ok_gO {f C : Addr} {fd : FuncData} (F : Fun K "other" "Meetings.other" mOther f fd) (T : CTxt K C) : FnOk P w K mg base CX0 1 f fd ["self"] (spGO C) := by
  refine F.ok scO (fun vs H Q E h => ?_) (fun cdv A outer s H vs Q E hr h => ?_)
  · obtain ⟨x, p, q, b, rfl, _⟩ := h
    rfl
  · obtain ⟨x, p, q, b, rfl, ⟨dx, ta, ba, vl, vn, vs, vt, vr, t, e, o⟩, k⟩ := h
    obtain ⟨pa, qa, et, ep, eq⟩ := o.pl
    refine ⟨_, pss_one (ps_ret (pe_ix ix_tup (pe_fld (pv 0) rfl) pe_int (fun _ _ => rfl))), ?_⟩
    exact ⟨_, rfl, x, C, dx, _, _, rfl, e, T.cl, T.nP, rfl, ta, _, 1, _, rfl, rfl, SqT.of et, atI_nat (j := 1) rfl, k qa eq⟩
theorem scLo : FnScope ["self"] ["self"] (defScope mLow) := ⟨rfl, rfl, rfl, by decide +kernel, rfl, by decide +kernel, by decide +kernel⟩
theorem ok_gLo {f C : Addr} {fd : FuncData} (F : Fun K "low" "Meetings.low" mLow f fd) (T : CTxt K C) : FnOk P w K mg base CX0 1 f fd ["self"] (spGB C (fun b => .int b.low)) := by
  refine F.ok scLo (fun vs H Q E h => ?_) (fun cdv A outer s H vs Q E hr h => ?_)
  · obtain ⟨x, p, q, b, rfl, _⟩ := h
    rfl
  · obtain ⟨x, p, q, b, rfl, ⟨dx, ta, ba, vl, vn, vs, vt, vr, t, e, o⟩, k⟩ := h
    refine ⟨_, pss_one (ps_ret (pe_ix ix_tup (pe_fld (pv 0) rfl) pe_int (fun _ _ => rfl))), ?_⟩
    exact ⟨_, rfl, x, C, dx, _, _, rfl, e, T.cl, T.nB, rfl, ba, _, 0, _, rfl, rfl, SqT.of o.bd, atI_nat (j := 0) rfl, k⟩
theorem scHi : FnScope ["self"] ["self"] (defScope mHigh) := ⟨rfl, rfl, rfl, by decide +kernel, rfl, by decide +kernel, by decide +kernel⟩
theorem ok_gHi {f C : Addr} {fd : FuncData} (F : Fun K "high" "Meetings.high" mHigh f fd) (T : CTxt K C) : FnOk P w K mg base CX0 1 f fd ["self"] (spGB C (fun b => oV b.high)) := by
  refine F.ok scHi (fun vs H Q E h => ?_) (fun cdv A outer s H vs Q E hr h => ?_)
  · obtain ⟨x, p, q, b, rfl, _⟩ := h
    rfl
  · obtain ⟨x, p, q, b, rfl, ⟨dx, ta, ba, vl, vn, vs, vt, vr, t, e, o⟩, k⟩ := h
    refine ⟨_, pss_one (ps_ret (pe_ix ix_tup (pe_fld (pv 0) rfl) pe_int (fun _ _ => rfl))), ?_⟩
    exact ⟨_, rfl, x, C, dx, _, _, rfl, e, T.cl, T.nB, rfl, ba, _, 1, _, rfl, rfl, SqT.of o.bd, atI_nat (j := 1) rfl, k⟩
theorem scFi : FnScope ["self"] ["self"] (defScope mFirst) := ⟨rfl, rfl, rfl, by decide +kernel, rfl, by decide +kernel, by decide +kernel⟩
theorem ok_gFi {f C : Addr} {fd : FuncData} (F : Fun K "first" "Meetings.first" mFirst f fd) (T : CTxt K C) : FnOk P w K mg base CX0 1 f fd ["self"] (spGB C (fun b => .int b.first)) := by
  refine F.ok scFi (fun vs H Q E h => ?_) (fun cdv A outer s H vs Q E hr h => ?_)
  · obtain ⟨x, p, q, b, rfl, _⟩ := h
    rfl
  · obtain ⟨x, p, q, b, rfl, ⟨dx, ta, ba, vl, vn, vs, vt, vr, t, e, o⟩, k⟩ := h
    refine ⟨_, pss_one (ps_ret (pe_ix ix_tup (pe_fld (pv 0) rfl) pe_int (fun _ _ => rfl))), ?_⟩
    exact ⟨_, rfl, x, C, dx, _, _, rfl, e, T.cl, T.nB, rfl, ba, _, 2, _, rfl, rfl, SqT.of o.bd, atI_nat (j := 2) rfl, k⟩
theorem scRo : FnScope ["self"] ["self"] (defScope mRounds) := ⟨rfl, rfl, rfl, by decide +kernel, rfl, by decide +kernel, by decide +kernel⟩
theorem ok_gRo {f C : Addr} {fd : FuncData} (F : Fun K "rounds" "Meetings.rounds" mRounds f fd) (T : CTxt K C) : FnOk P w K mg base CX0 1 f fd ["self"] (spGB C (fun b => oV b.rounds)) := by
  refine F.ok scRo (fun vs H Q E h => ?_) (fun cdv A outer s H vs Q E hr h => ?_)
  · obtain ⟨x, p, q, b, rfl, _⟩ := h
    rfl
  · obtain ⟨x, p, q, b, rfl, ⟨dx, ta, ba, vl, vn, vs, vt, vr, t, e, o⟩, k⟩ := h
    refine ⟨_, pss_one (ps_ret (pe_ix ix_tup (pe_fld (pv 0) rfl) pe_int (fun _ _ => rfl))), ?_⟩
    exact ⟨_, rfl, x, C, dx, _, _, rfl, e, T.cl, T.nB, rfl, ba, _, 3, _, rfl, rfl, SqT.of o.bd, atI_nat (j := 3) rfl, k⟩
theorem scNe : FnScope ["self"] ["self"] (defScope mNearest) := ⟨rfl, rfl, rfl, by decide +kernel, rfl, by decide +kernel, by decide +kernel⟩
theorem ok_gN {f C : Addr} {fd : FuncData} (F : Fun K "nearest" "Meetings.nearest" mNearest f fd) (T : CTxt K C) : FnOk P w K mg base CX0 1 f fd ["self"] (spGN C) := by
  refine F.ok scNe (fun vs H Q E h => ?_) (fun cdv A outer s H vs Q E hr h => ?_)
  · obtain ⟨x, p, q, b, rfl, _⟩ := h
    rfl
  · obtain ⟨x, p, q, b, rfl, ⟨dx, ta, ba, vl, vn, vs, vt, vr, t, e, o⟩, k⟩ := h
    refine ⟨_, pss_one (ps_ret (pe_fld (pv 0) rfl)), ?_⟩
    exact ⟨_, rfl, x, C, dx, _, _, rfl, e, T.cl, T.nN, rfl, k _ o.ne⟩
theorem scPa : FnScope ["self"] ["self"] (defScope mPaper) := ⟨rfl, rfl, rfl, by decide +kernel, rfl, by decide +kernel, by decide +kernel⟩
theorem ok_gQ {f C : Addr} {fd : FuncData} (F : Fun K "paper" "Meetings.paper" mPaper f fd) (T : CTxt K C) : FnOk P w K mg base CX0 1 f fd ["self"] (spGQ C) := by
  refine F.ok scPa (fun vs H Q E h => ?_) (fun cdv A outer s H vs Q E hr h => ?_)
  · obtain ⟨x, p, q, b, rfl, _⟩ := h
    rfl
  · obtain ⟨x, p, q, b, rfl, ⟨dx, ta, ba, vl, vn, vs, vt, vr, t, e, o⟩, k⟩ := h
    refine ⟨_, pss_one (ps_ret (pe_fld (pv 0) rfl)), ?_⟩
    exact ⟨_, rfl, x, C, dx, _, _, rfl, e, T.cl, T.nQ, rfl, k _ o.pp⟩
theorem scBo : FnScope ["self"] ["self"] (defScope mBool) := ⟨rfl, rfl, rfl, by decide +kernel, rfl, by decide +kernel, by decide +kernel⟩
def spGT (C : Addr) : Sp := fun vs H Q _ => ∃ x p q b, vs = [.ref x] ∧ MetAt C H x p q b ∧ Q (.bl (told p q b).near.isSome) H
theorem ok_bool {f C : Addr} {fd : FuncData} (F : Fun K "__bool__" "Meetings.__bool__" mBool f fd) (T : CTxt K C) : FnOk P w K mg base CX0 1 f fd ["self"] (spGT C) := by
  refine F.ok scBo (fun vs H Q E h => ?_) (fun cdv A outer s H vs Q E hr h => ?_)
  · obtain ⟨x, p, q, b, rfl, _⟩ := h
    rfl
  · obtain ⟨x, p, q, b, rfl, ⟨dx, ta, ba, vl, vn, vs, vt, vr, t, e, o⟩, k⟩ := h
    refine ⟨_, pss_one (ps_ret (pe_cmpR op_notN (pe_fld (pv 0) rfl) pe_non (nomark _))), ?_⟩
    refine ⟨_, rfl, x, C, dx, _, _, rfl, e, T.cl, T.nN, rfl, rfl, ?_⟩
    have on := o.ne
    generalize (told p q b).near = z at on k
    cases z with
    | none =>
      obtain rfl : vn = .non := on
      exact k
    | some y =>
      obtain ⟨a, rfl, _⟩ := on
      exact k
end
end K14
namespace K14
open PySem L2
open L2.My
open Met
abbrev tKeeps : Stmt := top 23
abbrev mDist : Stmt := inClass (top 25) 9
abbrev mSoon : Stmt := inClass (top 25) 10
abbrev mLate : Stmt := inClass (top 25) 11
abbrev mAmt : Stmt := inClass (top 25) 12
abbrev mCont : Stmt := inClass (top 25) 14
abbrev mEach : Stmt := inClass (top 25) 18
theorem iteTe {c : Bool} {A B : Prop} (h : c = true) (b : A) : if c = true then A else B := by
  rw [if_pos h]
  exact b
/-- whether a pair keeps the bounds -/
instance keepsDec (b : Bd) (e : Pr) : Decidable (Keeps b e) := decidable_of_iff _ (slacks_iff e b)
instance meetDec (p q e : Pr) : Decidable (Meet p q e) := inferInstanceAs (Decidable (_ = _))
instance goodDec (p q : Pr) (b : Bd) (e : Pr) : Decidable (Good p q b e) := inferInstanceAs (Decidable (_ ∧ _))
theorem slacks_pos (e : Pr) (b : Bd) : 0 < (slacks e b).length := by
  unfold slacks
  simp
theorem least_keeps {e : Pr} {b : Bd} {m : Int} (i : m ∈ slacks e b) (l : ∀ y, y ∈ slacks e b → m ≤ y) : decide (0 ≤ m) = decide (Keeps b e) := by
  refine decide_eq_decide.mpr ⟨fun h => (slacks_iff e b).mp fun x hx => by have := l x hx; omega, fun h => (slacks_iff e b).mpr h m i⟩
section
variable {P : Program} {w : World} {K : PySem.W.Frag} {mg : Str → Option Value} {base : Heap}
/-! ### keeps_all -/
def spKeeps : Sp := fun vs H Q _ => ∃ p q e b, vs = [.ref p, .ref q] ∧ PairAt H p e ∧ BdAt H q b ∧ ∀ H', Same H H' → Q (.bl (decide (Keeps b e))) H'
theorem scKeeps : FnScope ["pair", "bounds"] ["pair", "bounds"] (defScope tKeeps) := ⟨rfl, rfl, rfl, by decide +kernel, rfl, by decide +kernel, by decide +kernel⟩
theorem ok_keeps {f fS : Addr} {fd fdS : FuncData} (F : Fun K "keeps_all" "keeps_all" tKeeps f fd) (hmin : mg "min" = none) (dS : Dn P w K mg base CX0 "slacks" ["pair", "bounds"] 1 spSlacks fS fdS) :
    FnOk P w K mg base CX0 2 f fd ["pair", "bounds"] spKeeps := by
  refine F.ok scKeeps (fun vs H Q E h => ?_) (fun cdv A outer s H vs Q E hr h => ?_)
  · obtain ⟨p, q, e, b, rfl, _⟩ := h
    rfl
  · obtain ⟨p, q, e, b, rfl, ep, eb, k⟩ := h
    refine ⟨_, pss_one (ps_ret (pe_cmpR op_ge (pe_callB (cr_min rfl) (by rfl) hmin (by decide +kernel) (pa_cons (pe_call dS.G hr rfl dS.g dS.kp dS.b .nil pass0 (pa_cons (pv 0) (pa_cons (pv 1) pa_nil))) pa_nil)) pe_int (nomark _))), ?_⟩
    refine ⟨_, rfl, _, rfl, p, q, e, b, rfl, ep, eb, fun t H' s' et => ⟨t, _, rfl, SqL.of et, slacks_pos e b, fun m hm hl => ⟨_, _, rfl, rfl, ?_⟩⟩⟩
    show Q (.bl (decide (0 ≤ m))) H'
    rw [least_keeps hm hl]
    exact k H' s'
/-! ### soonest, latest, amount, distance -/
def spGA (C : Addr) : Sp := fun vs H Q _ => ∃ x p q b, vs = [.ref x] ∧ MetAt C H x p q b ∧ Q (oV (told p q b).amount) H
theorem scAm : FnScope ["self"] ["self"] (defScope mAmt) := ⟨rfl, rfl, rfl, by decide +kernel, rfl, by decide +kernel, by decide +kernel⟩
theorem ok_gA {f C : Addr} {fd : FuncData} (F : Fun K "amount" "Meetings.amount" mAmt f fd) (T : CTxt K C) : FnOk P w K mg base CX0 1 f fd ["self"] (spGA C) := by
  refine F.ok scAm (fun vs H Q E h => ?_) (fun cdv A outer s H vs Q E hr h => ?_)
  · obtain ⟨x, p, q, b, rfl, _⟩ := h
    rfl
  · obtain ⟨x, p, q, b, rfl, ⟨dx, ta, ba, vl, vn, vs, vt, vr, t, e, o⟩, k⟩ := h
    refine ⟨_, pss_one (ps_ret (pe_fld (pv 0) rfl)), ?_⟩
    exact ⟨_, rfl, x, C, dx, _, _, rfl, e, T.cl, T.nA, rfl, k⟩
/-- the least distance -/
def distOf (t : Told) : Option Int := t.near.map fun e => e.2 - e.1
def spGD (C : Addr) : Sp := fun vs H Q _ => ∃ x p q b, vs = [.ref x] ∧ MetAt C H x p q b ∧ Q (oV (distOf (told p q b))) H
theorem scDi : FnScope ["self"] ["self"] (defScope mDist) := ⟨rfl, rfl, rfl, by decide +kernel, rfl, by decide +kernel, by decide +kernel⟩
theorem ok_gD {f C : Addr} {fd : FuncData} (F : Fun K "distance" "Meetings.distance" mDist f fd) (T : CTxt K C) : FnOk P w K mg base CX0 1 f fd ["self"] (spGD C) := by
  refine F.ok scDi (fun vs H Q E h => ?_) (fun cdv A outer s H vs Q E hr h => ?_)
  · obtain ⟨x, p, q, b, rfl, _⟩ := h
    rfl
  · obtain ⟨x, p, q, b, rfl, ⟨dx, ta, ba, vl, vn, vs, vt, vr, t, e, o⟩, k⟩ := h
    refine ⟨_, pss_one (ps_ret (pe_ifExp (pt_cmpR op_isN (pe_fld (pv 0) rfl) pe_non (nomark _)) pe_non (pe_op op_sub (pe_ix ix_tup (pe_fld (pv 0) rfl) pe_int (fun _ _ => rfl)) (pe_ix ix_tup (pe_fld (pv 0) rfl) pe_int (fun _ _ => rfl))))), ?_⟩
    refine ⟨_, rfl, x, C, dx, _, _, rfl, e, T.cl, T.nN, rfl, rfl, _, rfl, ?_⟩
    have on := o.ne
    unfold distOf at k
    generalize (told p q b).near = z at on k
    cases z with
    | none =>
      obtain rfl : vn = .non := on
      exact iteT k
    | some y =>
      obtain ⟨a, rfl, ea⟩ := on
      exact iteF ⟨_, rfl, x, C, dx, _, _, rfl, e, T.cl, T.nN, rfl, a, _, 1, _, rfl, rfl, SqT.of ea, atI_nat (j := 1) rfl, _, rfl, x, C, dx, _, _, rfl, e, T.cl, T.nN, rfl, a, _, 0, _, rfl, rfl, SqT.of ea, atI_nat (j := 0) rfl, _, _, rfl, rfl, k⟩
/-! ### __contains__ -/
def spHas (C : Addr) : Sp := fun vs H Q _ => ∃ x c p q b e, vs = [.ref x, .ref c] ∧ MetAt C H x p q b ∧ PairAt H c e ∧ PSz p q ∧ B 1500 e.1 ∧ B 1500 e.2 ∧ ∀ H', Same H H' → Q (.bl (decide (Good p q b e))) H'
abbrev nCont : List Str := ["self", "x", "step", "offset", "other_step", "other_offset"]
theorem scCo : FnScope nCont ["self", "x"] (defScope mCont) := ⟨rfl, rfl, rfl, by decide +kernel, rfl, by decide +kernel, by decide +kernel⟩
theorem ok_has {f fP fK C : Addr} {fd fdP fdK : FuncData} (F : Fun K "__contains__" "Meetings.__contains__" mCont f fd) (T : CTxt K C) (dP : Dn P w K mg base CX0 "is_pair" ["value"] 2 (spPair K) fP fdP) (dK : Dn P w K mg base CX0 "keeps_all" ["pair", "bounds"] 2 spKeeps fK fdK) :
    FnOk P w K mg base CX0 3 f fd ["self", "x"] (spHas C) := by
  refine F.ok scCo (fun vs H Q E h => ?_) (fun cdv A outer s H vs Q E hr h => ?_)
  · obtain ⟨x, c, p, q, b, e, rfl, _⟩ := h
    rfl
  · obtain ⟨x, c, p, q, b, e, rfl, ⟨dx, ta, ba, vl, vn, vs, vt, vr, t, ex, o⟩, ee, ps, b1, b2, k⟩ := h
    obtain ⟨pa, qa, et, ep, eq⟩ := o.pl
    refine ⟨_, pss_cons (ps_if (pt_not (pt_val (pe_call dP.G hr rfl dP.g dP.kp dP.b .nil pass0 (pa_cons (pv 1) pa_nil)))) pss_never pss_nil)
      (pss_cons (ps_asg (pe_fld (pv 0) rfl) (pg_tup rfl (pgs_cons (pg_tup rfl (pgs_cons (pg_name (i := 2) scCo.nd rfl (.inl rfl)) (pgs_cons (pg_name (i := 3) scCo.nd rfl (.inl rfl)) pgs_nil)))
        (pgs_cons (pg_tup rfl (pgs_cons (pg_name (i := 4) scCo.nd rfl (.inl rfl)) (pgs_cons (pg_name (i := 5) scCo.nd rfl (.inl rfl)) pgs_nil))) pgs_nil))))
      (pss_one (ps_ret (pe_and (pe_cmpR op_eq (pe_op op_add (pe_op op_mulW (pv 2) (pe_ix ix_tup (pv 1) pe_int (fun _ _ => rfl))) (pv 3)) (pe_op op_add (pe_op op_mulW (pv 4) (pe_ix ix_tup (pv 1) pe_int (fun _ _ => rfl))) (pv 5)) (nomark _))
        (pe_one (pe_call dK.G hr rfl dK.g dK.kp dK.b .nil pass0 (pa_cons (pv 1) (pa_cons (pe_fld (pv 0) rfl) pa_nil)))))))), ?_⟩
    refine ⟨_, rfl, _, _, rfl, .two ee (.int _) (.int _), _, rfl, iteF ?_⟩
    refine ⟨_, rfl, x, C, dx, _, _, rfl, ex, T.cl, T.nP, rfl, ta, _, rfl, SqT.of et, rfl, _, _, rfl, ⟨pa, _, rfl, SqT.of ep, rfl, _, _, rfl, _, _, rfl, rfl, ?_⟩⟩
    refine ⟨_, _, rfl, qa, _, rfl, SqT.of eq, rfl, _, _, rfl, _, _, rfl, rfl, rfl, ?_⟩
    refine ⟨_, rfl, _, rfl, c, _, 0, _, rfl, rfl, SqT.of ee, atI_nat (j := 0) rfl, _, _, rfl, rfl, ps.h1.ml b1, _, rfl, _, _, rfl, rfl, ?_⟩
    refine ⟨_, rfl, _, rfl, c, _, 1, _, rfl, rfl, SqT.of ee, atI_nat (j := 1) rfl, _, _, rfl, rfl, ps.h3.ml b2, _, rfl, _, _, rfl, rfl, rfl, _, rfl, ?_⟩
    by_cases m : Meet p q e
    · have m' : p.1 * e.1 + p.2 = q.1 * e.2 + q.2 := m
      refine iteTe (decide_eq_true (congrArg V.int m')) ?_
      refine ⟨_, rfl, _, rfl, x, C, dx, _, _, rfl, ex, T.cl, T.nB, rfl, c, ba, e, b, rfl, ee, o.bd, fun H' s' => ?_⟩
      have z : decide (Keeps b e) = decide (Good p q b e) := decide_eq_decide.mpr ⟨fun h => ⟨m, h⟩, fun h => h.2⟩
      rw [z]
      exact k H' s'
    · have m' : ¬ p.1 * e.1 + p.2 = q.1 * e.2 + q.2 := m
      refine iteFe (decide_eq_false fun z => m' (V.int.inj z)) ?_
      have kk := k H (Same.refl H)
      rw [decide_eq_false (fun h => m h.1)] at kk
      exact kk
end
end K14
/-! generators that are asked at most so many times, by a consumer that keeps other objects of its own beside its list -/
namespace L2.My
open PySem PySem.Spec PyProof.Rows GenW L2

/-- an address that is the consumer's alone -/
structure Off (X : Cx) (b : Addr) : Prop where
  late : X.s_0.heap.objs.size ≤ b
  loc : b ≠ X.env.locals
  cell : ∀ x c, X.env.cells.lookup x = some c → c ≠ b
  fs : b ∉ X.fs
/-- ys stand in the consumer's list at S, its other objects at ad; all as in s₀, where the generator was woken -/
def NI (X : Cx) (S : Addr) (ad : List Addr) (ys : List V) (σ : L2.St) (H : Hp) (s₀ s : Shared) : Prop :=
  ∃ (acc : Array Value) (c : Nat) (cs : List (Addr × Obj)), Vals ys acc.toList ∧ cs.map (·.1) = ad ∧ Inv X ((S, lstObj acc c) :: cs) σ H s ∧ ∀ p ∈ (S, lstObj acc c) :: cs, s₀.heap.get? p.1 = some p.2
/-- what is wanted: at most so many items are asked for; out: of all that came, where the asking ends -/
structure NEnds where
  most : Nat
  out : List V → Hp → Prop
  nx : List V → L2.St → Hp → Prop
  rt : List V → Hp → Prop
abbrev TN := NEnds → List V → L2.St → Hp → Prop
def NY (X : Cx) (S : Addr) (ad : List Addr) (most : Nat) (out : List V → Hp → Prop) : Protocol := fun n s₀ v s kap =>
  ∃ (ys : List V) (x : V) (σ : L2.St) (H : Hp), n + 1 + ys.length = most ∧ RelV x v ∧ NI X S ad ys σ H s₀ s ∧ (n = 0 → out (ys ++ [x]) H) ∧ (0 < n → ∀ s', NI X S ad (ys ++ [x]) σ H s' s' → kap (.send .none) s')
def NR (X : Cx) (S : Addr) (ad : List Addr) (most : Nat) (out : List V → Hp → Prop) : GenEnd := fun n s₀ r s =>
  r = .ok (.ret .none) ∧ ∃ (ys : List V) (σ : L2.St) (H : Hp), n + ys.length = most ∧ NI X S ad ys σ H s₀ s ∧ out ys H
/-- where the generator's code stands -/
structure NC (X : Cx) (A : Around) (c : Code) (fs : List Frame) (gd : Bool → Bool) : Prop where
  over : A.over c fs = X.A
  split : splitAtGen fs = none
  guard : fs.any Frame.guarded = false
  gd : gd false = false
  no : ∀ e s, X.xe e s → False
def NP (X : Cx) (S : Addr) (ad : List Addr) (D : NEnds) (ys : List V) (f : Flow) (s₀ s : Shared) : Prop :=
  match f with
  | .next => ∃ σ H, NI X S ad ys σ H s₀ s ∧ D.nx ys σ H
  | .ret u => u = Value.none ∧ ∃ σ H, NI X S ad ys σ H s₀ s ∧ D.rt ys H
  | .brk => False
  | .cont => False
/-- what follows -/
def NK (X : Cx) (S : Addr) (ad : List Addr) (A : Around) (c : Code) (fs : List Frame) (K : Flow → Sem PySem.Fin) (D : NEnds) : Prop :=
  ∀ (n : Nat) (ys : List V) (s₀ s : Shared) (f : Flow), n + ys.length = D.most → NP X S ad D ys f s₀ s → Seg (model X.prog X.w) A (NR X S ad D.most D.out) (NY X S ad D.most D.out) n s₀ c (K f) fs s
structure NSs (X : Cx) (st : List Stmt) (t : TN) : Prop where
  run : ∀ (A : Around) (S : Addr) (ad : List Addr) (n : Nat) (ys : List V) (s₀ : Shared) (c : Code) (fs : List Frame) (K : Flow → Sem PySem.Fin) (J : Value → Sem PySem.Fin) (gd : Bool → Bool) (lv : List Value → List Value) (s : Shared) (σ : L2.St) (H : Hp) (D : NEnds),
    NC X A c fs gd → n + ys.length = D.most → NK X S ad A c fs K D → NI X S ad ys σ H s₀ s → t D ys σ H →
    Seg (model X.prog X.w) A (NR X S ad D.most D.out) (NY X S ad D.most D.out) n s₀ c ((execs st X.env).wrap K J gd lv) fs s
section
variable {X : Cx} {st : Stmt} {rest : List Stmt}
theorem NI.at {S : Addr} {ad : List Addr} {ys : List V} {σ : L2.St} {H : Hp} {s₀ s : Shared} (h : NI X S ad ys σ H s₀ s) : H S = none ∧ (∀ b ∈ ad, H b = none) ∧ ∃ acc c, Vals ys acc.toList ∧ s.heap.get? S = some (lstObj acc c) := by
  obtain ⟨acc, c, cs, r, rfl, I, _⟩ := h
  refine ⟨(I.pin (S, lstObj acc c) (List.mem_append_right _ List.mem_cons_self)).2.1, fun b hb => ?_, acc, c, r, (I.pin (S, lstObj acc c) (List.mem_append_right _ List.mem_cons_self)).1⟩
  obtain ⟨p, hp, rfl⟩ := List.mem_map.mp hb
  exact (I.pin p (List.mem_append_right _ (List.mem_cons_of_mem _ hp))).2.1
theorem NI.same {S : Addr} {ad : List Addr} {ys : List V} {σ : L2.St} {H : Hp} {s₀ s : Shared} (h : NI X S ad ys σ H s₀ s) : ∀ b ∈ S :: ad, s.heap.get? b = s₀.heap.get? b := by
  obtain ⟨acc, c, cs, r, rfl, I, k⟩ := h
  intro b hb
  have hm : b ∈ ((S, lstObj acc c) :: cs).map (·.1) := hb
  obtain ⟨p, hp, rfl⟩ := List.mem_map.mp hm
  rw [k p hp]
  exact (I.pin p (List.mem_append_right _ hp)).1
/-- pins for objects that stand -/
theorem pins_there {h : Heap} {Q : Addr → Obj → Prop} : ∀ {ad : List Addr}, (∀ b ∈ ad, ∃ o, h.get? b = some o ∧ Q b o) → ∃ cs : List (Addr × Obj), cs.map (·.1) = ad ∧ ∀ p ∈ cs, h.get? p.1 = some p.2 ∧ Q p.1 p.2
  | [], _ => ⟨[], rfl, fun p hp => nomatch hp⟩
  | b :: ad, k => by
    obtain ⟨o, e, q⟩ := k b List.mem_cons_self
    obtain ⟨cs, e1, e2⟩ := pins_there fun b' hb => k b' (List.mem_cons_of_mem _ hb)
    refine ⟨(b, o) :: cs, by rw [List.map_cons, e1], fun p hp => ?_⟩
    rcases List.mem_cons.mp hp with rfl | hp
    · exact ⟨e, q⟩
    · exact e2 p hp
/-- the consumer has worked on its own -/
theorem NI.turn {S : Addr} {ad : List Addr} {ys ys' : List V} {σ : L2.St} {H : Hp} {s₀ s s' : Shared} (h : NI X S ad ys σ H s₀ s) (hoff : ∀ b ∈ S :: ad, Off X b) (hpn : X.pn = []) (hos : s'.os = s.os) (hba : AllBare s'.gens)
    (keep : ∀ b o, b ∉ S :: ad → s.heap.get? b = some o → s'.heap.get? b = some o) (hl : ∃ acc c, Vals ys' acc.toList ∧ s'.heap.get? S = some (lstObj acc c)) (ht : ∀ b ∈ ad, ∃ o, s'.heap.get? b = some o ∧ ∀ v, o.data ≠ .cell v) : NI X S ad ys' σ H s' s' := by
  obtain ⟨nS, nad, _⟩ := h.at
  obtain ⟨acc, c, cs, r, ha, I, _⟩ := h
  have nch : ∀ b ∈ S :: ad, H b = none := fun b hb => by
    rcases List.mem_cons.mp hb with rfl | hb
    · exact nS
    · exact nad b hb
  have I0 : Inv X [] σ H s := I.pins_of fun p hp => nomatch hp
  have off : ∀ b u, H b = some u → b ∉ S :: ad := fun b u q hb => by
    rw [nch b hb] at q
    cases q
  obtain ⟨hh, g, d, t, o⟩ := s'
  have ho : o = s.os := hos
  subst ho
  have J : Inv X [] σ H { s with heap := hh, gens := g, drawn := d, toks := t } := by
    refine I0.step (g' := g) (t' := t) (d' := d) (ch := S :: ad) (fun b hb => ⟨.inr (hoff b hb).late, (hoff b hb).loc, (hoff b hb).cell, fun p hp => ?_⟩)
      (fun b ob _ _ hc q _ => keep b ob hc q) (fun b ob _ _ hc q _ => ⟨ob.slots, keep b ob hc q⟩) (fun _ _ _ _ n => n) (fun b ob hc q => ⟨ob, keep b ob hc q⟩) (fun _ _ q => q) (fun _ _ _ q => q) (fun b ps q => ⟨#[], by rw [q, Array.append_empty]⟩) (fun m hm => ?_) (fun b u q => ?_) hba
    · rw [hpn] at hp
      exact nomatch hp
    · obtain ⟨ob, es, ep, e, rr⟩ := hm
      exact ⟨ob, es, ep, keep _ ob (fun z => (hoff _ z).loc rfl) e, rr⟩
    · refine (I0.hok b u q).stay (fun c' v hc y => keep c' v ?_ y) (fun _ y => y) fun _ _ y => y
      rcases hc with z | z
      · rw [z]
        exact off b u q
      · exact off c' _ z
  obtain ⟨acc', c', r', e'⟩ := hl
  obtain ⟨cs', e1, e2⟩ := pins_there (Q := fun _ ob => ∀ v, ob.data ≠ .cell v) ht
  refine ⟨acc', c', cs', r', e1, J.pins_of fun p hp => ?_, fun p hp => ?_⟩
  case refine_2 =>
    rcases List.mem_cons.mp hp with rfl | hp
    · exact e'
    · exact (e2 p hp).1
  rcases List.mem_cons.mp hp with rfl | hp
  · exact ⟨e', nS, (hoff S List.mem_cons_self).loc, (hoff S List.mem_cons_self).fs, fun v z => by cases z⟩
  · have hb : p.1 ∈ ad := by
      rw [← e1]
      exact List.mem_map_of_mem hp
    exact ⟨(e2 p hp).1, nad _ hb, (hoff _ (List.mem_cons_of_mem _ hb)).loc, (hoff _ (List.mem_cons_of_mem _ hb)).fs, (e2 p hp).2⟩
/-! ### statements that hand out nothing -/
def NEnds.plain (D : NEnds) (ys : List V) (nx : L2.St → Hp → Prop) : Ends := { nx := nx, rt := fun v H => v = .non ∧ D.rt ys H }
theorem np_of {S : Addr} {ad : List Addr} {acc : Array Value} {c : Nat} {cs : List (Addr × Obj)} {D : NEnds} {ys : List V} {f : Flow} {s₀ s : Shared} (r : Vals ys acc.toList) (ha : cs.map (·.1) = ad) (k0 : ∀ p ∈ (S, lstObj acc c) :: cs, s₀.heap.get? p.1 = some p.2) (h : SP X ((S, lstObj acc c) :: cs) (D.plain ys (D.nx ys)) f s) : NP X S ad D ys f s₀ s := by
  cases f with
  | next =>
    obtain ⟨σ, H, I, q⟩ := h
    exact ⟨σ, H, ⟨acc, c, cs, r, ha, I, k0⟩, q⟩
  | ret u =>
    obtain ⟨v, σ, H, I, rv, ev, q⟩ := h
    subst ev
    exact ⟨rv, σ, H, ⟨acc, c, cs, r, ha, I, k0⟩, q⟩
  | brk =>
    obtain ⟨_, _, _, q⟩ := h
    exact q
  | cont =>
    obtain ⟨_, _, _, q⟩ := h
    exact q
def tNPlain (t : TS) : TN := fun D ys σ H => t (D.plain ys (D.nx ys)) σ H
theorem nss_pss {t : TS} (h : PSs X rest t) : NSs X rest (tNPlain t) := by
  refine ⟨fun A S ad n ys s₀ c fs K J gd lv s σ H D g hn k hI ht => ?_⟩
  obtain ⟨acc, cc, cs, r, ha, I, k0⟩ := hI
  refine seg_wrap ?_
  rw [g.over]
  exact wpAny_mono (h.run _ s σ H (D.plain ys (D.nx ys)) I ht) (fun f s' hs => k n ys s₀ s' f hn (np_of r ha k0 hs)) fun x s' hx => (g.no x s' hx).elim
def tNThen (t : TS) (u : TN) : TN := fun D ys σ H => t (D.plain ys fun σ' H' => u D ys σ' H') σ H
theorem nss_cons {t : TS} {u : TN} (a : PS X st t) (b : NSs X rest u) : NSs X (st :: rest) (tNThen t u) := by
  refine ⟨fun A S ad n ys s₀ c fs K J gd lv s σ H D g hn k hI ht => ?_⟩
  obtain ⟨acc, cc, cs, r, ha, I, k0⟩ := hI
  refine seg_execs_cons (seg_wrap ?_)
  rw [g.over]
  refine wpAny_mono (a.run _ s σ H _ I ht) (fun f s' hs => ?_) fun x s' hx => (g.no x s' hx).elim
  cases f with
  | next =>
    obtain ⟨σ', H', I', q⟩ := hs
    exact b.run A S ad n ys s₀ c fs K J gd lv s' σ' H' D g hn k ⟨acc, cc, cs, r, ha, I', k0⟩ q
  | ret u =>
    obtain ⟨v, σ', H', I', rv, ev, q⟩ := hs
    subst ev
    exact k n ys s₀ s' (.ret u) hn ⟨rv, σ', H', ⟨acc, cc, cs, r, ha, I', k0⟩, q⟩
  | brk =>
    obtain ⟨_, _, _, q⟩ := hs
    exact False.elim q
  | cont =>
    obtain ⟨_, _, _, q⟩ := hs
    exact False.elim q
/-! ### while test: yield e; .. at the end of the def -/
def tNWhile (tc : TT) (te : TE) (tb : TS) : TN := fun D ys σ H => ∃ W : List V → L2.St → Hp → Prop, W ys σ H ∧ ∀ ys σ H, W ys σ H → tc σ H fun b H1 =>
  if b = true then ys.length < D.most ∧ te σ H1 fun x H2 => (ys.length + 1 = D.most → D.out (ys ++ [x]) H2) ∧ (ys.length + 1 < D.most → tb { nx := fun σ' H' => W (ys ++ [x]) σ' H', rt := fun _ _ => False } σ H2) else D.nx ys σ H1
theorem nss_while {test e : Expr} {body : List Stmt} {yp pos wpos : Pos} {tc : TT} {te : TE} {tb : TS} (hc : PT X test tc) (he : PE X e te) (hb : PSs X body tb) (hco : X.env.scope.isCoroutine = false := by rfl) (hi : interactive X.env = false := by rfl) :
    NSs X [.While test (.Expr (.Yield (some e) yp) pos :: body) [] wpos] (tNWhile tc te tb) := by
  refine ⟨fun A S ad n ys s₀ c fs K J gd lv s σ H D g hn k hI ht => ?_⟩
  obtain ⟨W, w0, turn⟩ := ht
  refine seg_execs_cons (seg_While fun p => ?_)
  generalize hwl : Code.whileLoop test (.Expr (.Yield (some e) yp) pos :: body) [] X.env = wl
  have loop : ∀ (m n : Nat) (ys : List V) (s₀ s : Shared) (σ : L2.St) (H : Hp), n = m → n + ys.length = D.most → W ys σ H → NI X S ad ys σ H s₀ s →
      Seg (model X.prog X.w) A (NR X S ad D.most D.out) (NY X S ad D.most D.out) n s₀ wl ((model X.prog X.w).den wl)
        (.ret (fun r => ((match r with | .ok f => (.pure f : Sem Flow) | .error e => .raise e).onRaise (fun (x : Value) => do
        if (← field x 1) == Value.none then unsupported "frame.own-activation:exception-without-traceback"
        setFlight x X.env.frame)).wrap (fun (f : Flow) => match f with | .next => (execs [] X.env).wrap K J gd lv | f => K f) J gd lv) none (gd false) (lv []) c p [] :: fs) s := by
    subst hwl
    intro m
    induction m with
    | zero =>
      intro n ys s₀ s σ H hm hn w hI
      subst hm
      refine seg_whileLoop ?_
      rw [over_loop rfl rfl, g.over]
      obtain ⟨acc, cc, cs, r, ha, I, k0⟩ := hI
      refine wpAny_mono (hc.run _ s σ H _ I (turn ys σ H w)) (fun b s' hb' => ?_) fun x s' hx => (g.no x s' hx).elim
      obtain ⟨H2, I2, q2⟩ := hb'
      cases b with
      | true =>
        obtain ⟨lt, _⟩ := q2
        omega
      | false =>
        rw [if_neg Bool.false_ne_true]
        refine seg_execs_nil ?_
        exact seg_leaf (.ok .next) (seg_execs_nil (env := X.env) (K := K) (H := J) (gd := gd) (lv := lv) (k 0 ys s₀ s' .next hn ⟨σ, H2, ⟨acc, cc, cs, r, ha, I2, k0⟩, q2⟩))
    | succ m ih =>
      intro n ys s₀ s σ H hm hn w hI
      subst hm
      refine seg_whileLoop ?_
      rw [over_loop rfl rfl, g.over]
      obtain ⟨acc, cc, cs, r, ha, I, k0⟩ := hI
      refine wpAny_mono (hc.run _ s σ H _ I (turn ys σ H w)) (fun b s' hb' => ?_) fun x s' hx => (g.no x s' hx).elim
      obtain ⟨H2, I2, q2⟩ := hb'
      cases b with
      | false =>
        rw [if_neg Bool.false_ne_true]
        refine seg_execs_nil ?_
        exact seg_leaf (.ok .next) (seg_execs_nil (env := X.env) (K := K) (H := J) (gd := gd) (lv := lv) (k (m + 1) ys s₀ s' .next hn ⟨σ, H2, ⟨acc, cc, cs, r, ha, I2, k0⟩, q2⟩))
      | true =>
        obtain ⟨lt, q2⟩ := q2
        rw [if_pos rfl]
        refine seg_execs_cons (seg_Expr_Yield (by show (splitAtGen fs).map _ = none; rw [g.split]; rfl) rfl (by show (gd false || fs.any Frame.guarded) = false; rw [g.gd, g.guard]; rfl) ?_ hco hi)
        rw [over_loop rfl rfl, g.over]
        refine wpAny_mono (he.run _ s' σ H2 _ I2 q2) (fun v s2 hv => ?_) fun x s2 hx => (g.no x s2 hx).elim
        obtain ⟨x, H3, I3, rv, q3, q4⟩ := hv
        intro kap hk
        refine ⟨ys, x, σ, H3, by omega, rv, ⟨acc, cc, cs, r, ha, I3, k0⟩, fun z => q3 (by omega), fun z s4 hI4 => hk .none s4 ?_⟩
        obtain ⟨acc4, cc4, cs4, r4, ha4, I4, k4⟩ := hI4
        show Seg (model X.prog X.w) A (NR X S ad D.most D.out) (NY X S ad D.most D.out) m s4 _ ((execs body X.env).wrap _ _ id id) _ s4
        refine seg_wrap ?_
        rw [over_loop rfl rfl, g.over]
        refine wpAny_mono (hb.run _ s4 σ H3 _ I4 (q4 (by omega))) (fun f s5 hs => ?_) fun x s5 hx => (g.no x s5 hx).elim
        cases f with
        | next =>
          obtain ⟨σ5, H5, I5, w5⟩ := hs
          exact seg_again rfl (ih m (ys ++ [x]) s4 s5 σ5 H5 rfl (by rw [List.length_append, List.length_singleton]; omega) w5 ⟨acc4, cc4, cs4, r4, ha4, I5, k4⟩)
        | ret u =>
          obtain ⟨_, _, _, _, _, q⟩ := hs
          exact False.elim q
        | brk =>
          obtain ⟨_, _, _, q⟩ := hs
          exact False.elim q
        | cont =>
          obtain ⟨_, _, _, q⟩ := hs
          exact False.elim q
  exact loop n n ys s₀ s σ H rfl hn w0 hI
end
end L2.My
/-! a generator def's promise to a consumer that asks at most so many times -/
namespace L2.My
open PySem PySem.Spec PyProof.Rows GenW L2

/-- the arguments, the heap, how often it is asked at most, what is wanted of all that came -/
abbrev SpN := List V → Hp → Nat → (List V → Hp → Prop) → Prop
/-- a generator that has not begun -/
structure NMade (P : Program) (w : World) (k : Nat) (outer : List Env) (H : Hp) (s : Shared) (most : Nat) (out : List V → Hp → Prop) (s' : Shared) (a : Addr) (g : Nat) (c : Code) (σ : L2.St) (XA : Around → Cx) : Prop where
  lo : s.heap.objs.size ≤ a
  hi : a < s'.heap.objs.size
  gen : s'.heap.IsGen a g
  fresh : s'.gens[g]? = some (.fresh c)
  os : s'.os = s.os
  bare : AllBare s'.gens
  lim : s'.heap.NoLimit
  keep : ∀ b o, s.heap.get? b = some o → s'.heap.get? b = some o
  cx : ∀ A, (XA A).prog = P ∧ (XA A).w = w ∧ (XA A).s_0 = s ∧ (XA A).H_0 = H ∧ (XA A).outer = outer ∧ (XA A).ex = [] ∧ (XA A).pn = []
  off : ∀ A b, b = a ∨ s'.heap.objs.size ≤ b → Off (XA A) b
  begin_ : ∀ A S ad s2, Room k A → A.frames = some outer → (∀ b ∈ S :: ad, b = a ∨ s'.heap.objs.size ≤ b) → s2.os = s.os → AllBare s2.gens → (∀ b o, s'.heap.get? b = some o → s2.heap.get? b = some o) →
    (∃ c, s2.heap.get? S = some (lstObj #[] c)) → (∀ b ∈ ad, ∃ o, s2.heap.get? b = some o ∧ ∀ v, o.data ≠ .cell v) → NI (XA A) S ad [] σ H s2 s2
  wake : ∀ A S ad s2, Room k A → A.frames = some outer → NI (XA A) S ad [] σ H s2 s2 → Seg (model P w) A (NR (XA A) S ad most out) (NY (XA A) S ad most out) most s2 c ((model P w).den c) [] s2
structure GFnN (P : Program) (w : World) (K : PySem.W.Frag) (mg : Str → Option Value) (base : Heap) (k : Nat) (f : Addr) (fd : FuncData) (ps : List Str) (sp : SpN) : Prop where
  len : ∀ vs H m out, sp vs H m out → vs.length = ps.length
  run : ∀ (A : Around) (outer : List Env) (s : Shared) (H : Hp) (args : Args) (us : List Value) (vs : List V) (m : Nat) (out : List V → Hp → Prop), Room k A → Env0 P w K mg base A outer s H → BindsTo s fd args (ps.zip us) → Vals vs us → sp vs H m out →
    codeAny (model P w) A (.call (.ref f) args) (fun r s' => match r with | .ok (.ret u) => ∃ a g c σ XA, u = Value.ref a ∧ NMade P w k outer H s m out s' a g c σ XA | _ => False) s
/-- the context of its body -/
abbrev gX (P : Program) (w : World) (K : PySem.W.Frag) (mg : Str → Option Value) (base : Heap) (N : List Str) (qual : Str) (scope : Scope) (f : Addr) (cdv : Value) (outer : List Env) (s : Shared) (H : Hp) (A : Around) : Cx :=
  (cxOf CX0 P w K mg base N qual scope f cdv A outer s H E0).nox
theorem gfn_ofN {P : Program} {w : World} {K : PySem.W.Frag} {mg : Str → Option Value} {base : Heap} {k : Nat} {f : Addr} {name qual : Str} {params : Arguments} {body : List Stmt} {scope : Scope} {dV kV doc pm cdv ct oc : Value} {an od : Option Addr}
    {osl : Array (Option Value)} {N ps : List Str} {sp : SpN} (lk : K.lookup f = some ⟨oc, od, .func (PySem.W.fnOf name qual params body scope dV kV doc pm an cdv ct), osl⟩) (hcd : PySem.W.codeIn K cdv qual = true) (S : GScope N ps scope)
    (len : ∀ vs H m out, sp vs H m out → vs.length = ps.length)
    (hbody : ∀ (A : Around) (outer : List Env) (s : Shared) (H : Hp) (vs : List V) (m : Nat) (out : List V → Hp → Prop), Room k (A.deeper (envOfC qual scope s.heap.objs.size f cdv)) → sp vs H m out →
      ∃ t, NSs (gX P w K mg base N qual scope f cdv outer s H A) body t ∧ t { most := m, out := out, nx := fun ys _ H' => out ys H', rt := fun ys H' => out ys H' } [] (start N vs) H) :
    GFnN P w K mg base (k + 1) f (PySem.W.fnOf name qual params body scope dV kV doc pm an cdv ct) ps sp := by
  refine ⟨len, fun A outer s H args us vs m out hr e0 hb r hsp => ?_⟩
  have hl := len _ _ _ _ hsp
  have kept0 : ∀ b o, base.get? b = some o → s.heap.get? b = some o := fun b o e => (e0.bs b o e).1
  have KX : K.In s.heap := e0.mod.kin.keeps kept0
  have lim0 : s.heap.NoLimit := e0.mod.nolimit.keeps kept0
  refine codeAny_call_generator hr.depth (KX _ _ lk) rfl S.co S.gen rfl (PySem.W.codeRec_of KX hcd) (hb _ _ _ _ ?_)
  refine wpAny_newFunctionEnv_cells S.kind (fun ⟨x, v⟩ hx => ?_) fun env he s1 x => ?_
  · rcases S.par x (List.of_mem_zip hx).1 with q | q
    · exact .inl q
    · exact .inr ⟨q, PySem.W.cellsFrom_some _ _ _ (.inl q)⟩
  subst he
  obtain ⟨h1, tk, es1, hk1⟩ := x.done
  have kp1 := x.toInCall.keep
  have lim1 : s1.heap.NoLimit := lim0.keeps kp1
  have os1 : s1.os = s.os := by rw [es1]
  have gens1 : s1.gens = s.gens := by rw [es1]
  have lt1 : s.heap.objs.size < s1.heap.objs.size := x.toInCall.ns.lt
  have begun : ∀ Aw, Room (k + 1) Aw → Aw.frames = some outer → Inv (gX P w K mg base N qual scope f cdv outer s H Aw) [] (start N vs) H s1 := fun Aw hrw hfr =>
    (inv_startG (E := E0) S hrw.hd ⟨hfr, e0.mod, e0.bs, e0.bsz, e0.funs, e0.frf, e0.hok, e0.bare⟩ hl r x).wish fun _ _ => False
  have IA := begun A hr e0.frames
  have young : ∀ b, s1.heap.objs.size ≤ b → H b = none ∧ b ≠ s.heap.objs.size ∧ b ∉ frs outer ∧ s.heap.objs.size ≤ b ∧ ∀ y c, (cellsFrom (s.heap.objs.size + 1) scope.names []).lookup y = some c → c ≠ b := fun b hb => by
    refine ⟨IA.hok.fresh hb, fun z => absurd (Nat.lt_of_lt_of_le lt1 hb) (by rw [z]; exact Nat.lt_irrefl _), IA.nofs hb, Nat.le_trans (Nat.le_of_lt lt1) hb, fun y c e z => ?_⟩
    obtain ⟨v, ob, ho, _⟩ := IA.cell y c e
    have lt := Heap.lt_size ho
    rw [z] at lt
    exact absurd (Nat.lt_of_lt_of_le lt hb) (Nat.lt_irrefl _)
  refine ⟨lim1, ?_⟩
  generalize hgo : ({ cls := .type "generator", data := .fields #[.int s1.gens.size 0, .str name s1.toks, .str qual (s1.toks + 1)] } : Obj) = go
  have hat : (s1.heap.push go).get? s1.heap.objs.size = some go := Heap.get?_push_size _ (by rw [← hgo]; rfl)
  have up : ∀ b o, s1.heap.get? b = some o → (s1.heap.push go).get? b = some o := fun b o e => Heap.get?_push_of_some _ e
  have size' : (s1.heap.push go).objs.size = s1.heap.objs.size + 1 := Heap.size_push ..
  refine ⟨s1.heap.objs.size, s1.gens.size, .func body (envOfC qual scope s.heap.objs.size f cdv), start N vs, gX P w K mg base N qual scope f cdv outer s H, rfl, ⟨Nat.le_of_lt lt1, ?_, ?_, ?_, os1, ?_, lim1.keeps up, fun b o e => up _ _ (kp1 b o e), fun A => ⟨rfl, rfl, rfl, rfl, rfl, rfl, rfl⟩, fun Aw b hb => ?_, fun Aw Sx ad s2 hrw hfr hb hos hba hk2 hS had => ?_, fun Aw Sx ad s2 hrw hfr hNI => ?_⟩⟩
  · show _ < (s1.heap.push go).objs.size
    rw [size']
    exact Nat.lt_succ_self _
  · subst hgo
    exact ⟨_, _, _, hat, rfl, rfl, rfl⟩
  · exact Array.getElem?_push_size ..
  · exact AllBare.push (by rw [gens1]; exact e0.bare) rfl
  · have hle : s1.heap.objs.size ≤ b := by
      rcases hb with rfl | hb
      · exact Nat.le_refl _
      · have hb : (s1.heap.push go).objs.size ≤ b := hb
        rw [size'] at hb
        exact Nat.le_of_succ_le hb
    obtain ⟨_, y2, y3, y4, y5⟩ := young b hle
    exact ⟨y4, y2, y5, y3⟩
  · have I1 := begun Aw hrw hfr
    have kp2 : ∀ b o, s1.heap.get? b = some o → s2.heap.get? b = some o := fun b o e => hk2 b o (up b o e)
    have I2 : Inv (gX P w K mg base N qual scope f cdv outer s H Aw) [] (start N vs) H s2 := I1.call' (ch := []) (hos.trans os1.symm) (Un.kept kp2) (I1.hok.kept kp2) hba fun b z => nomatch z
    have old : ∀ b ∈ Sx :: ad, s1.heap.objs.size ≤ b := fun b hm => by
      rcases hb b hm with rfl | hb
      · exact Nat.le_refl _
      · have hb : (s1.heap.push go).objs.size ≤ b := hb
        rw [size'] at hb
        exact Nat.le_of_succ_le hb
    obtain ⟨cS, eS⟩ := hS
    obtain ⟨cs, e1, e2⟩ := pins_there (Q := fun _ ob => ∀ v, ob.data ≠ .cell v) had
    refine ⟨#[], cS, cs, .nil, e1, I2.pins_of fun p hp => ?_, fun p hp => ?_⟩
    case refine_2 =>
      rcases List.mem_cons.mp hp with rfl | hp
      · exact eS
      · exact (e2 p hp).1
    rcases List.mem_cons.mp hp with rfl | hp
    · obtain ⟨y1, y2, y3, _, _⟩ := young Sx (old Sx List.mem_cons_self)
      exact ⟨eS, y1, y2, y3, fun v z => by cases z⟩
    · have hm : p.1 ∈ Sx :: ad := by
        rw [← e1]
        exact List.mem_cons_of_mem _ (List.mem_map_of_mem hp)
      obtain ⟨y1, y2, y3, _, _⟩ := young p.1 (old p.1 hm)
      exact ⟨(e2 p hp).1, y1, y2, y3, (e2 p hp).2⟩
  · obtain ⟨t, ht, hq⟩ := hbody Aw outer s H vs m out (hrw.deeper _) hsp
    refine seg_func ?_
    refine ht.run Aw Sx ad m [] s2 _ [] _ _ id id s2 (start N vs) H _ ⟨over_func, rfl, rfl, rfl, fun _ _ z => z⟩ rfl (fun n ys s₀ s' fl hn hs => ?_) hNI hq
    cases fl with
    | next =>
      obtain ⟨σ', H', hI, q⟩ := hs
      exact seg_end (.ok (.ret .none)) ⟨rfl, ys, σ', H', hn, hI, q⟩
    | brk => exact False.elim hs
    | cont => exact False.elim hs
    | ret u =>
      obtain ⟨rfl, σ', H', hI, q⟩ := hs
      exact seg_end (.ok (.ret .none)) ⟨rfl, ys, σ', H', hn, hI, q⟩
end L2.My
namespace Met
/-- the row begins somewhere -/
theorem ends_of {p q : Pr} {b : Bd} {l : Line} {s : Span} (nz : p.1 ≠ 0 ∨ q.1 ≠ 0) (hl : lineOf p q = some l) (hs : spanOf (limits l b) = some s) :
    (up l.step.2 l.step.1 = true → ∃ a, s.1 = some a) ∧ (up l.step.2 l.step.1 = false → ∃ a, s.2 = some a) := by
  have P := the_span nz hl hs
  obtain ⟨e0, he0⟩ := least_there P kEach l.base.2 l.base.1 l.step.2 l.step.1 (P.step.symm) (kEach_at l)
    (fun _ => ⟨b.first + b.low, fun e g => by have := g.2.1; have := g.2.2.1; show _ ≤ e.2; omega⟩) (fun _ => ⟨b.first, fun e g => g.2.1⟩)
  unfold least at he0
  refine ⟨fun c => ?_, fun c => ?_⟩
  · rw [c, if_pos rfl] at he0
    cases h : s.1 with
    | none =>
      rw [h] at he0
      cases he0
    | some a => exact ⟨a, rfl⟩
  · rw [c, if_neg (by decide)] at he0
    cases h : s.2 with
    | none =>
      rw [h] at he0
      cases he0
    | some a => exact ⟨a, rfl⟩
end Met
namespace K14
open PySem L2
open L2.My
open Met
/-- pairs that were handed out: the first ones, at most m -/
structure Rows (H : Hp) (t : Nat → Option Pr) (m : Nat) (ys : List V) : Prop where
  at_ : ∀ (i : Nat) v, ys[i]? = some v → ∃ a e, v = .ref a ∧ t i = some e ∧ PairAt H a e
  len : ys.length ≤ m
  full : ys.length < m → t ys.length = none
section
variable {P : Program} {w : World} {K : PySem.W.Frag} {mg : Str → Option Value} {base : Heap}
/-! ### each -/
def spEach (C : Addr) : SpN := fun vs H m out => ∃ x p q b, vs = [.ref x] ∧ MetAt C H x p q b ∧ PSz p q ∧ BOk b ∧ 0 < m ∧ m ≤ 1000 ∧ ∀ ys H', Same H H' → Rows H' (told p q b).nth m ys → out ys H'
abbrev nEach : List Str := ["self", "pair", "step", "start", "end", "at"]
theorem scEach : GScope nEach ["self"] (defScope mEach) := ⟨rfl, rfl, rfl, by decide +kernel, rfl, by decide +kernel, by decide +kernel⟩
theorem neg_sz {n : Nat} {s : Option Int} (h : ∀ a, s = some a → B n a) : ∀ a, s.map (- ·) = some a → B n a := fun a e => by
  cases s with
  | none => cases e
  | some b =>
    obtain rfl : -b = a := Option.some.inj e
    exact (h b rfl).neg
theorem gok_each {f fG fA C : Addr} {fd fdG fdA : FuncData} (F : Fun K "each" "Meetings.each" mEach f fd) (T : CTxt K C) (dG : Dn P w K mg base CX0 "goes_up" ["slopes"] 1 spGoes fG fdG) (dA : Dn P w K mg base CX0 "after" ["pair", "step", "times"] 1 spAfter fA fdA) :
    GFnN P w K mg base 2 f fd ["self"] (spEach C) := by
  obtain ⟨oc, od, kV, doc, pm, an, cdv, ct, osl, rfl, lk, hcd⟩ := F.ex
  refine gfn_ofN lk hcd scEach (fun vs H m out h => ?_) (fun A outer s H vs m out hr h => ?_)
  · obtain ⟨x, p, q, b, rfl, _⟩ := h
    rfl
  · obtain ⟨x, p, q, b, rfl, ⟨dx, ta, ba, vl, vn, vs, vt, vr, t, ex, o⟩, ps, bo, pm', hm, k⟩ := h
    refine ⟨_, nss_cons (ps_if (pt_cmpR op_isN (pe_fld (pv 0) rfl) pe_non (nomark _)) (pss_one ps_retN) pss_nil)
      (nss_cons (ps_asg (pe_fld (pv 0) rfl) (pg_tup rfl (pgs_cons (pg_name (i := 1) scEach.nd rfl (.inl rfl)) (pgs_cons (pg_name (i := 2) scEach.nd rfl (.inl rfl)) pgs_nil))))
      (nss_cons (ps_asg (pe_fld (pv 0) rfl) (pg_tup rfl (pgs_cons (pg_name (i := 3) scEach.nd rfl (.inl rfl)) (pgs_cons (pg_name (i := 4) scEach.nd rfl (.inl rfl)) pgs_nil))))
      (nss_cons (ps_if (pt_not (pt_val (pe_call dG.G hr rfl dG.g dG.kp dG.b .nil pass0 (pa_cons (pe_tup (pa_cons (pe_ix ix_tup (pv 2) pe_int (fun _ _ => rfl)) (pa_cons (pe_ix ix_tup (pv 2) pe_int (fun _ _ => rfl)) pa_nil))) pa_nil))))
        (pss_cons (ps_set (i := 2) scEach.nd rfl (.inl rfl) (pe_tup (pa_cons (pe_un un_neg (pe_ix ix_tup (pv 2) pe_int (fun _ _ => rfl))) (pa_cons (pe_un un_neg (pe_ix ix_tup (pv 2) pe_int (fun _ _ => rfl))) pa_nil))))
        (pss_one (ps_par (i := 3) (j := 4) rfl scEach.nd rfl rfl (by decide) rfl rfl (pa_cons (pe_un un_neg (pv 4)) (pa_cons (pe_ifExp (pt_cmpR op_isN (pv 3) pe_non (nomark _)) pe_non (pe_un un_neg (pv 3))) pa_nil)) (by rfl)))) pss_nil)
      (nss_cons (ps_set (i := 5) scEach.nd rfl (.inl rfl) (pv 3))
      (nss_while (PW.pt (pw_or (pt_cmpR op_isN (pv 4) pe_non (nomark _)) (pw_or1 (pt_cmpR op_le (pv 5) (pv 4) (nomark _)))))
        (pe_call dA.G hr rfl dA.g dA.kp dA.b .nil pass0 (pa_cons (pv 1) (pa_cons (pv 2) (pa_cons (pv 5) pa_nil)))) (pss_one (ps_aug (i := 5) scEach.nd rfl (.inl rfl) pe_int ip_add))))))), ?_⟩
    have os := o.sp
    refine ⟨_, rfl, x, C, dx, _, _, rfl, ex, T.cl, T.nR, rfl, rfl, _, rfl, ?_⟩
    cases hs : spanB p q b with
    | none =>
      rw [hs] at os
      obtain rfl : vr = .non := os
      refine iteT ⟨rfl, k _ _ (Same.refl _) ?_⟩
      rw [(told_none hs).1]
      exact ⟨fun i v e => (by cases e), Nat.zero_le _, fun _ => rfl⟩
    | some sp =>
      rw [hs] at os
      obtain ⟨r, rfl, er⟩ := os
      obtain ⟨l, hl, hsp⟩ := span_line hs
      have et := (told_some (b := b) hl hsp).1
      rw [show (told p q b).nth = rowAt l (rowOf l sp) by rw [et]; rfl] at k
      have lsz := line_sz ps.h1 ps.h2 ps.h3 ps.h4 hl
      obtain ⟨z1, z2⟩ := span_sz lsz bo.bb hsp
      obtain ⟨n1, n2⟩ := ends_of ps.nz hl hsp
      have stp := (line_some ps.nz hl).2
      have ol := o.li
      rw [hl] at ol
      obtain ⟨tl, rfl, ab, as', etl, eb, es⟩ := ol
      refine iteF ?_
      refine ⟨_, rfl, x, C, dx, _, _, rfl, ex, T.cl, T.nL, rfl, tl, _, rfl, SqT.of etl, rfl, _, _, rfl, _, _, rfl, rfl, ?_⟩
      refine ⟨_, rfl, x, C, dx, _, _, rfl, ex, T.cl, T.nR, rfl, r, _, rfl, SqT.of er, rfl, _, _, rfl, _, _, rfl, rfl, ?_⟩
      refine ⟨_, rfl, as', _, 1, _, rfl, rfl, SqT.of es, atI_nat (j := 1) rfl, _, rfl, as', _, 0, _, rfl, rfl, SqT.of es, atI_nat (j := 0) rfl, n_line, fun tu nu => ?_⟩
      refine ⟨tu, l.step.2, l.step.1, rfl, upd_same, stp.symm, fun H1 s1 => ⟨_, rfl, ?_⟩⟩
      have s01 : Same H H1 := (grow nu).trans s1
      -- the loop
      have loop : ∀ (H2 : Hp) (st : Addr), Same H H2 → PairAt H2 st (rowOf l sp).st → B 706 (rowOf l sp).st.1 → B 706 (rowOf l sp).st.2 → B 710 (rowOf l sp).lo →
          tNThen (tAsg (tVar 3) (gName 5)) (tNWhile (tOr (tTest (tOp (fun x y H Q => y = V.non ∧ Q (V.bl (decide (x = V.non))) H) (tVar 4) (tC V.non))) (tTest (tOp (rI0 fun i j => V.bl (decide (i ≤ j))) (tVar 5) (tVar 4))))
            (tCall spAfter [] E0 (tCons (tVar 1) (tCons (tVar 2) (tCons (tVar 5) tNil)))) (tAug 5 (tC (V.int 1)) (ipI fun i j => i + j))) { most := m, out := out, nx := fun ys x H' => out ys H', rt := fun ys H' => out ys H' } []
            [some (.ref x), some (.ref ab), some (.ref st), some (.int (rowOf l sp).lo), some (oV (rowOf l sp).hi), none] H2 := by
        intro H2 st s2 e2 b1 b2 b3
        refine ⟨_, rfl, ?_⟩
        refine ⟨fun ys σ H' => Same H2 H' ∧ σ = [some (.ref x), some (.ref ab), some (.ref st), some (.int (rowOf l sp).lo), some (oV (rowOf l sp).hi), some (.int ((rowOf l sp).lo + ys.length))] ∧ ys.length < m ∧ ∀ (i : Nat) v, ys[i]? = some v → ∃ a e, v = .ref a ∧ rowAt l (rowOf l sp) i = some e ∧ PairAt H' a e, ?_, ?_⟩
        · refine ⟨Same.refl _, ?_, pm', fun i v z => by cases z⟩
          show _ = [_, _, _, _, _, some (V.int ((rowOf l sp).lo + 0))]
          rw [Int.add_zero]
          rfl
        · rintro ys σ H' ⟨s', rfl, lt, av⟩
          generalize rowOf l sp = R at k e2 b1 b2 b3 av
          obtain ⟨rst, lo, hi⟩ := R
          have ba : B 2000 (lo + (ys.length : Int)) := (b3.add (n := 710) (B.up (n := 10) (show ((ys.length : Int)).natAbs < 2 ^ 10 by omega))).up
          have on : within hi (lo + (ys.length : Int)) = true → (ys.length < m ∧ spAfter ([.ref ab, .ref st, .int (lo + ys.length)] ++ []) H' (fun x' H2' => (ys.length + 1 = m → out (ys ++ [x']) H2') ∧ (ys.length + 1 < m →
              tAug 5 (tC (V.int 1)) (ipI fun i j => i + j) { nx := fun σ' H' => Same H2 H' ∧ σ' = [some (.ref x), some (.ref ab), some (.ref st), some (.int lo), some (oV hi), some (.int (lo + (ys ++ [x']).length))] ∧ (ys ++ [x']).length < m ∧ ∀ (i : Nat) v, (ys ++ [x'])[i]? = some v → ∃ a e, v = .ref a ∧ rowAt l ⟨rst, lo, hi⟩ i = some e ∧ PairAt H' a e, rt := fun _ _ => False }
                [some (.ref x), some (.ref ab), some (.ref st), some (.int lo), some (oV hi), some (.int (lo + ys.length))] H2')) E0) := by
            intro c
            refine ⟨lt, ab, st, l.base, rst, _, rfl, (eb.same s2).same s', e2.same s', b1.up, b2.up, ba, fun t H3 s3 et => ?_⟩
            have av3 : ∀ (i : Nat) v, (ys ++ [V.ref t])[i]? = some v → ∃ a e, v = .ref a ∧ rowAt l ⟨rst, lo, hi⟩ i = some e ∧ PairAt H3 a e := by
              intro i v hv
              by_cases z : i < ys.length
              · rw [List.getElem?_append_left z] at hv
                obtain ⟨a, e, r1, r2, r3⟩ := av i v hv
                exact ⟨a, e, r1, r2, r3.same s3⟩
              · have zi : i = ys.length := by
                  have := (List.getElem?_eq_some_iff.mp hv).1
                  rw [List.length_append, List.length_singleton] at this
                  omega
                subst zi
                rw [List.getElem?_append_right (Nat.le_refl _), Nat.sub_self] at hv
                have hv : V.ref t = v := Option.some.inj hv
                refine ⟨t, _, hv.symm, ?_, et⟩
                unfold rowAt
                exact if_pos c
            refine ⟨fun z => k _ _ ((s2.trans s').trans s3) ⟨av3, ?_, fun w => ?_⟩, fun z => ⟨_, rfl, ?_⟩⟩
            · rw [List.length_append, List.length_singleton]
              omega
            · rw [List.length_append, List.length_singleton] at w
              omega
            · refine ⟨_, _, rfl, rfl, s'.trans s3, ?_, ?_, av3⟩
              · rw [List.length_append, List.length_singleton]
                show [_, _, _, _, _, some (V.int (lo + (ys.length : Int) + 1))] = _
                rw [show lo + (ys.length : Int) + 1 = lo + ((ys.length + 1 : Nat) : Int) by omega]
              · rw [List.length_append, List.length_singleton]
                omega
          have off : within hi (lo + (ys.length : Int)) = false → out ys H' := fun c => k _ _ (s2.trans s') ⟨av, Nat.le_of_lt lt, fun _ => by
            unfold rowAt
            rw [c]
            rfl⟩
          refine ⟨_, rfl, rfl, _, rfl, ?_⟩
          cases hi with
          | none => exact iteT (iteT ⟨(on rfl).1, _, rfl, _, rfl, _, rfl, (on rfl).2⟩)
          | some h =>
            refine iteF ⟨_, rfl, _, rfl, _, _, rfl, rfl, _, rfl, ?_⟩
            by_cases c : lo + (ys.length : Int) ≤ h
            · rw [decide_eq_true c]
              have z := on (decide_eq_true c)
              exact iteT ⟨z.1, _, rfl, _, rfl, _, rfl, z.2⟩
            · rw [decide_eq_false c]
              exact iteF (off (decide_eq_false c))
      cases c : up l.step.2 l.step.1 with
      | true =>
        obtain ⟨a, ha⟩ := n1 c
        have er : rowOf l sp = ⟨l.step, a, sp.2⟩ := by
          unfold rowOf
          rw [if_pos c, ha]
          rfl
        rw [er] at loop
        refine iteF ?_
        rw [ha]
        exact loop H1 as' s01 (es.same s01) lsz.s1.up lsz.s2.up (z1 a ha)
      | false =>
        obtain ⟨a, ha⟩ := n2 c
        have er : rowOf l sp = ⟨(-l.step.1, -l.step.2), -a, sp.1.map (- ·)⟩ := by
          unfold rowOf
          rw [if_neg (by rw [c]; decide), ha]
          rfl
        rw [er] at loop
        rw [ha]
        refine iteT ⟨_, rfl, as', _, 0, _, rfl, rfl, SqT.of (es.same s01), atI_nat (j := 0) rfl, _, rfl, _, rfl, as', _, 1, _, rfl, rfl, SqT.of (es.same s01), atI_nat (j := 1) rfl, _, rfl, n_line, fun t2 nt2 => ?_⟩
        have lp := loop _ t2 (s01.trans (grow nt2)) upd_same lsz.s1.neg.up lsz.s2.neg.up (z2 a ha).neg
        refine ⟨_, rfl, _, rfl, _, rfl, rfl, _, rfl, ?_⟩
        cases h1 : sp.1 with
        | none =>
          rw [h1] at lp
          exact iteT ⟨_, _, rfl, lp⟩
        | some d =>
          rw [h1] at lp
          exact iteF ⟨_, rfl, _, rfl, _, _, rfl, lp⟩
end
end K14
/-! the next item of a range, of a generator, of zip(range(n), generator) -/
namespace L2.My
open PySem PySem.Spec PyProof.Rows GenW L2
section
variable {prog : Program} {w : World} {A : Around} {E : Value → Shared → Prop} {s : Shared}
/-- an exception that ends an iterator, at e -/
def IsStop (h : Heap) (e : Addr) : Prop := ∃ o, h.get? e = some o ∧ o.cls = .type "StopIteration"
theorem raise_stop {α : Type} {Q : α → Shared → Prop} (hh : A.handled = none) (hE : ∀ h' e, (∀ b o, s.heap.get? b = some o → h'.get? b = some o) → IsStop h' e → s.heap.objs.size ≤ e → E (.ref e) { s with heap := h' }) :
    wpAny (model prog w) A (newExc (.type "StopIteration") [] >>= fun e => raiseNew e) Q E s := by
  refine wpAny_bind ?_
  simp only [newExc, newTuple]
  refine wpAny_bind (wpAny_newObj_type ?_ (by size_fits))
  refine wpAny_bind (m := firstArgMember _ _) (wpAny_of_eq (a := Value.none) (by first | rfl | (simp only [firstArgMember]; rfl)) ?_)
  refine wpAny_newObj_type ?_ (by size_fits)
  simp only [raiseNew]
  refine wpAny_bind (wpAny_handled ?_)
  rw [hh]
  refine wpAny_bind (wpAny_pure (wpAny_throw ?_))
  exact hE _ _ (fun b o hb => Heap.get?_push_of_some _ (Heap.get?_push_of_some _ hb)) ⟨_, Heap.get?_push_size _ rfl, rfl⟩ (by rw [Heap.size_push]; exact Nat.le_succ _)
theorem raise_stop2 {α β : Type} {k : β → Sem α} {Q : α → Shared → Prop} (hh : A.handled = none) (hE : ∀ h' e, (∀ b o, s.heap.get? b = some o → h'.get? b = some o) → IsStop h' e → s.heap.objs.size ≤ e → E (.ref e) { s with heap := h' }) :
    wpAny (model prog w) A (newExc (.type "StopIteration") [] >>= fun e => raiseNew e >>= k) Q E s := by
  have h := raise_stop (prog := prog) (w := w) (α := β) (Q := fun _ _ => False) hh hE
  rw [← bind_assoc]
  exact wpAny_bind (wpAny_mono h (fun _ _ z => False.elim z) fun _ _ z => z)
theorem next_range_item {it : Addr} {x left step : Int} {Q : Value → Shared → Prop} (hit : IsRangeIter s.heap it x left step) (hl : 0 < left)
    (hQ : ∀ h', IsRangeIter h' it (x + step) (left - 1) step → Heap.SameBut it s.heap h' → Q (.int x s.toks) { s with heap := h', toks := s.toks + 1 }) : wpAny (model prog w) A (Builtin.SmallTypes.nextOf (.ref it)) Q E s := by
  have hT : s.TypeIs (.ref it) "range_iterator" := ⟨_, hit, rfl⟩
  unfold Builtin.SmallTypes.nextOf
  refine wpAny_bind (wpAny_callSpecial?_slot (name := Str.ofString "__next__") hT F.slot_range_iterator_next
    (call_meets F.slot_range_iterator_next hT F.entry_range_iterator_next (F.args_range_iterator_next_1 _) (AutoRange.range_iterator___next___range_iterator_1 it x left step (by omega)) ⟨hit, ?_⟩))
  exact wpAny_pure (hQ _ (Heap.get?_update_self _ (Heap.get?_update_self _ hit rfl) rfl) ((Heap.SameBut.update ..).trans (Heap.SameBut.update ..)))
theorem next_range_end {it : Addr} {x left step : Int} {Q : Value → Shared → Prop} (hh : A.handled = none) (hit : IsRangeIter s.heap it x left step) (hl : left ≤ 0)
    (hE : ∀ h' e, (∀ b o, s.heap.get? b = some o → h'.get? b = some o) → IsStop h' e → s.heap.objs.size ≤ e → E (.ref e) { s with heap := h' }) : wpAny (model prog w) A (Builtin.SmallTypes.nextOf (.ref it)) Q E s := by
  have hT : s.TypeIs (.ref it) "range_iterator" := ⟨_, hit, rfl⟩
  unfold Builtin.SmallTypes.nextOf
  refine wpAny_bind (wpAny_callSpecial?_slot (name := Str.ofString "__next__") hT F.slot_range_iterator_next
    (wpAny_call_entry F.slot_range_iterator_next hT F.entry_range_iterator_next ?_ (F.args_range_iterator_next_1 _)))
  show wpAny _ _ (field (.ref it) 0 >>= _) _ _ s
  refine wpAny_bind (wpAny_field hit rfl (x := rawInt x) rfl ?_)
  show wpAny _ _ (field (.ref it) 1 >>= _) _ _ s
  refine wpAny_bind (wpAny_field hit rfl (x := rawInt left) rfl ?_)
  show wpAny _ _ (field (.ref it) 2 >>= _) _ _ s
  refine wpAny_bind (wpAny_field hit rfl (x := rawInt step) rfl ?_)
  show wpAny _ _ (if left ≤ 0 then _ else _) _ _ s
  rw [if_pos hl]
  refine wpAny_bind (wpAny_rule ?_)
  refine wpAny_bind ?_
  exact raise_stop (A := A.in1) hh hE
theorem next_gen {P : Program} {w : World} {a : Addr} {g n : Nat} {gs : GenState} {R : GenEnd} {Y : Protocol} {Q : Value → Shared → Prop} (hh : A.handled = none) (hl : s.heap.NoLimit) (hroom : A.depth < recursionLimit) (hg : s.heap.IsGen a g) (hgs : s.gens[g]? = some gs)
    (hgo : gs.Goes (model P w) A.in1 R Y n (.send .none) (s.setGen g .running))
    (hY : ∀ v s₁ gs', gs'.bare = true → Y (n - 1) (s.setGen g .running) v s₁ (fun r' s'' => match n with
        | 0 => False
        | m + 1 => gs'.Goes (model P w) A.in1 R Y m r' s'') → Q v (s₁.setGen g gs'))
    (hR : ∀ r s₁, R n (s.setGen g .running) r s₁ → r = .ok (.ret .none) ∧ ∀ h' e, (∀ b o, s₁.heap.get? b = some o → h'.get? b = some o) → IsStop h' e → s₁.heap.objs.size ≤ e → E (.ref e) { s₁.setGen g .finished with heap := h' }) :
    wpAny (model P w) A (Builtin.SmallTypes.nextOf (.ref a)) Q E s := by
  unfold Builtin.SmallTypes.nextOf
  refine wpAny_bind (wpAny_callSpecial?_slot (name := Str.ofString "__next__") hg.typeIs slot_gen_next (wpAny_call_entry slot_gen_next hg.typeIs entry_gen_next ?_ (args_gen_next _)))
  show wpAny _ A.in1 (Builtin.Generator.genWake (.ref a) (.send .none)) _ _ s
  unfold Builtin.Generator.genWake
  refine wpAny_bind (wpAny_holding (wpAny_genNumber hg (wpAny_bind (wpAny_genState hgs ?_))))
  cases gs with
  | running => exact hgo.elim
  | finished => exact hgo.elim
  | _ =>
    refine wpAny_bind (wpAny_roomToWake hl hroom ?_)
    show wpAny _ A.in1 (.resume g (.send .none) [] _) _ _ s
    refine wpAny_resumeQ hgs hgo (fun x s₁ hx => ?_) (fun v s₁ gs' hb hv => ?_)
    · obtain ⟨rfl, k⟩ := hR x s₁ hx
      show wpAny _ A.in1 (newExc (.type "StopIteration") [] >>= _) _ _ _
      exact raise_stop2 (A := A.in1) (s := s₁.setGen g .finished) hh fun h' e h1 h2 h3 => k h' e h1 h2 h3
    · exact wpAny_pure ⟨v, rfl, wpAny_pure (hY v s₁ gs' hb hv)⟩
end
end L2.My
/-! one step of zip(range(n), generator) -/
namespace L2.My
open PySem PySem.Spec PyProof.Rows GenW L2
section
variable {prog : Program} {w : World} {A : Around} {E : Value → Shared → Prop} {s : Shared}
/-- the objects of such a zip that are not its generator differ -/
structure ZipD (z TI TO i1 : Addr) : Prop where
  tz : TI ≠ z
  oz : TO ≠ z
  iz : i1 ≠ z
  to : TI ≠ TO
  ti : TI ≠ i1
  oi : TO ≠ i1
/-- the generator has handed out v in s4 -/
def ZGot (z TI TO : Addr) (b n : Value) (Q : Value → Shared → Prop) (v : Value) (s4 : Shared) : Prop :=
  IsZip s4.heap z TI TO .ellipsis ∧ IsPair s4.heap TO n b ∧ ∀ h', IsZip h' z TI TO (rawInt s4.heap.objs.size) → IsPair h' TO n v → IsPair h' s4.heap.objs.size n v → (∀ c o, c ≠ z → c ≠ TO → s4.heap.get? c = some o → h'.get? c = some o) → Q (.ref s4.heap.objs.size) { s4 with heap := h' }
/-- .. or it has ended -/
def ZEnd (z TI TO : Addr) (E : Value → Shared → Prop) (e : Value) (s4 : Shared) : Prop :=
  IsZip s4.heap z TI TO .ellipsis ∧ (∃ ea, e = .ref ea ∧ IsStop s4.heap ea) ∧ ∀ h' ea, e = .ref ea → IsStop h' ea → IsZip h' z TI TO .none → (∀ c o, c ≠ z → s4.heap.get? c = some o → h'.get? c = some o) → E e { s4 with heap := h' }
theorem stop_ne {h : Heap} {z TI TO e : Addr} {f : Value} (hz : IsZip h z TI TO f) (hs : IsStop h e) : e ≠ z := by
  rintro rfl
  obtain ⟨o, ho, hc⟩ := hs
  rw [hz] at ho
  cases ho
  simp at hc
theorem IsStop.on {h h' : Heap} {e : Addr} (hs : IsStop h e) (k : ∀ o, h.get? e = some o → h'.get? e = some o) : IsStop h' e := by
  obtain ⟨o, ho, hc⟩ := hs
  exact ⟨o, k o ho, hc⟩
theorem zip_step {z TI TO i1 i2 : Addr} {x left : Int} {a b : Value} {Q : Value → Shared → Prop} (hh : A.handled = none) (D : ZipD z TI TO i1)
    (hz : IsZip s.heap z TI TO .none) (hTI : IsPair s.heap TI (.ref i1) (.ref i2)) (hTO : IsPair s.heap TO a b) (h1 : IsRangeIter s.heap i1 x left 1)
    (hend : left ≤ 0 → ∀ h' e, IsZip h' z TI TO .none → (∀ c o, c ≠ z → s.heap.get? c = some o → h'.get? c = some o) → IsStop h' e → E (.ref e) { s with heap := h' })
    (hgo : 0 < left → ∀ h3, IsZip h3 z TI TO .ellipsis → IsPair h3 TO (.int x s.toks) b → IsRangeIter h3 i1 (x + 1) (left - 1) 1 → h3.objs.size = s.heap.objs.size → (∀ c o, c ≠ z → c ≠ TO → c ≠ i1 → s.heap.get? c = some o → h3.get? c = some o) →
      wpAny (model prog w) A (Builtin.SmallTypes.nextOf (.ref i2)) (ZGot z TI TO b (.int x s.toks) Q) (ZEnd z TI TO E) { s with heap := h3, toks := s.toks + 1 }) :
    wpAny (model prog w) A (Builtin.«zip.__next__» ⟨[.ref z], []⟩) (fun fin s' => ∃ v, fin = .done (.ret v) ∧ Q v s') E s := by
  show wpAny _ _ (field (.ref z) 2 >>= _) _ _ _
  refine wpAny_bind (wpAny_field hz rfl (x := .bool false) rfl ?_); show wpAny _ _ (field (.ref z) 3 >>= _) _ _ _
  refine wpAny_bind (wpAny_field hz rfl (x := .ref TI) rfl (wpAny_bind (wpAny_seqItems hTI rfl ?_)))
  show wpAny _ _ (Builtin.SmallTypes.ownedTupleIsFree (.ref z) >>= _) _ _ _
  refine wpAny_bind ?_; unfold Builtin.SmallTypes.ownedTupleIsFree
  refine wpAny_bind (wpAny_field hz rfl (x := .none) rfl (wpAny_pure ?_)); simp only [if_true]
  refine wpAny_bind (wpAny_rule (wpAny_bind (wpAny_field hz rfl (x := .ref TO) rfl ?_)))
  refine wpAny_bind (wpAny_setField_rec hz (by simp) fun g1 z1 sb1 => ?_)
  replace z1 : IsZip g1 z TI TO .ellipsis := z1
  refine wpAny_bind ?_; simp only [List.zipIdx_cons, List.zipIdx_nil, List.forIn_cons, List.forIn_nil]
  refine wpAny_bind (wpAny_bind (wpAny_onRaise ?_)); show wpAny _ _ (Builtin.SmallTypes.nextOf (.ref i1) >>= _) _ _ _
  have r1 : IsRangeIter g1 i1 x left 1 := (sb1.2 _ D.iz).trans h1
  have o1 : IsPair g1 TO a b := (sb1.2 _ D.oz).trans hTO
  by_cases hl : 0 < left
  · refine wpAny_bind (next_range_item (s := { s with heap := g1 }) r1 hl fun g2 r2 sb2 => wpAny_pure ?_)
    have o2 : IsPair g2 TO a b := (sb2.2 _ D.oi).trans o1
    refine wpAny_bind (wpAny_seqItems o2 rfl (wpAny_bind (wpAny_updateSeq_pair o2 fun g3 o3 sb3 => ?_)))
    replace o3 : IsPair g3 TO (.int x s.toks) b := o3
    refine wpAny_bind (wpAny_letGo (wpAny_pure ?_))
    refine wpAny_bind (wpAny_bind (wpAny_onRaise ?_)); show wpAny _ _ (Builtin.SmallTypes.nextOf (.ref i2) >>= _) _ _ _
    have z3 : IsZip g3 z TI TO .ellipsis := (sb3.2 _ D.oz.symm).trans ((sb2.2 _ D.iz.symm).trans z1)
    have r3 : IsRangeIter g3 i1 (x + 1) (left - 1) 1 := (sb3.2 _ D.oi.symm).trans r2
    refine wpAny_bind (wpAny_mono (hgo hl g3 z3 o3 r3 (sb3.1.trans (sb2.1.trans sb1.1)) fun c o c1 c2 c3 e => (sb3.2 _ c2).trans ((sb2.2 _ c3).trans ((sb1.2 _ c1).trans e))) (fun v s4 hv => wpAny_pure ?_) fun e s4 he => ?_)
    · obtain ⟨z4, o4, k⟩ := hv
      refine wpAny_bind (wpAny_seqItems o4 rfl (wpAny_bind (wpAny_updateSeq_pair o4 fun g5 o5 sb5 => ?_)))
      replace o5 : IsPair g5 TO (.int x s.toks) v := o5
      refine wpAny_bind (wpAny_letGo (wpAny_pure (wpAny_pure ?_)))
      refine wpAny_bind (wpAny_seqItems o5 rfl (wpAny_bind (wpAny_newTuple ?_)))
      have z5 : IsZip g5 z TI TO .ellipsis := (sb5.2 _ D.oz.symm).trans z4
      have lz : z < g5.objs.size := Heap.lt_size z5
      show wpAny _ _ (Builtin.SmallTypes.ownedTupleHandOut (.ref z) (.ref g5.objs.size) >>= _) _ _ _
      refine wpAny_bind ?_; unfold Builtin.SmallTypes.ownedTupleHandOut
      have z6 : IsZip (g5.push { cls := .type "tuple", data := .seq #[.int x s.toks, v] }) z TI TO .ellipsis := Heap.get?_push_of_some _ z5
      refine wpAny_bind (wpAny_setField_rec z6 (by simp) fun g7 z7 sb7 => ?_)
      replace z7 : IsZip g7 z TI TO (rawInt g5.objs.size) := z7
      refine wpAny_setField_rec z7 (by simp) fun g8 z8 sb8 => ?_
      replace z8 : IsZip g8 z TI TO (rawInt g5.objs.size) := z8
      have sz : g5.objs.size = s4.heap.objs.size := sb5.1
      have up : ∀ c o, c ≠ z → g5.get? c = some o → g8.get? c = some o := fun c o c1 e => (sb8.2 _ c1).trans ((sb7.2 _ c1).trans (Heap.get?_push_of_some _ e))
      have t8 : IsPair g8 g5.objs.size (.int x s.toks) v := (sb8.2 _ (Nat.ne_of_gt lz)).trans ((sb7.2 _ (Nat.ne_of_gt lz)).trans (Heap.get?_push_size _ rfl))
      have kk := k g8 (by rw [← sz]; exact z8) (up _ _ D.oz o5) (by rw [← sz]; exact t8) fun c o c1 c2 e => up c o c1 ((sb5.2 _ c2).trans e)
      rw [← sz] at kk
      exact wpAny_pure ⟨_, rfl, kk⟩
    · obtain ⟨z4, ⟨ea, rfl, st⟩, k⟩ := he
      have ne := stop_ne z4 st
      refine wpAny_setField_rec z4 (by simp) fun g5 z5 sb5 => k g5 ea rfl (st.on fun o e => (sb5.2 _ ne).trans e) z5 fun c o c1 e => (sb5.2 _ c1).trans e
  · refine wpAny_bind (next_range_end (s := { s with heap := g1 }) hh r1 (by omega) fun g2 e kp st _ => ?_)
    have z2 : IsZip g2 z TI TO .ellipsis := kp _ _ z1
    have ne := stop_ne z2 st
    refine wpAny_setField_rec z2 (by simp) fun g3 z3 sb3 => hend (by omega) g3 e z3 (fun c o c1 h => (sb3.2 _ c1).trans (kp _ _ ((sb1.2 _ c1).trans h))) (st.on fun o h => (sb3.2 _ ne).trans h)
theorem next_zip {z TI TO i1 i2 : Addr} {x left : Int} {a b : Value} {Q : Option Value → Shared → Prop} (hh : A.handled = none) (D : ZipD z TI TO i1)
    (hz : IsZip s.heap z TI TO .none) (hTI : IsPair s.heap TI (.ref i1) (.ref i2)) (hTO : IsPair s.heap TO a b) (h1 : IsRangeIter s.heap i1 x left 1)
    (hend : left ≤ 0 → ∀ h', IsZip h' z TI TO .none → (∀ c o, c ≠ z → s.heap.get? c = some o → h'.get? c = some o) → Q none { s with heap := h' })
    (hgo : 0 < left → ∀ h3, IsZip h3 z TI TO .ellipsis → IsPair h3 TO (.int x s.toks) b → IsRangeIter h3 i1 (x + 1) (left - 1) 1 → h3.objs.size = s.heap.objs.size → (∀ c o, c ≠ z → c ≠ TO → c ≠ i1 → s.heap.get? c = some o → h3.get? c = some o) →
      wpAny (model prog w) A.in1 (Builtin.SmallTypes.nextOf (.ref i2)) (ZGot z TI TO b (.int x s.toks) fun v s5 => Q (some v) s5) (ZEnd z TI TO fun _ s5 => Q none s5) { s with heap := h3, toks := s.toks + 1 }) :
    wpAny (model prog w) A (pyNext (.ref z)) Q E s := by
  have hT : s.TypeIs (.ref z) "zip" := ⟨_, hz, rfl⟩
  have stop : ∀ (s5 : Shared) (e : Addr), IsStop s5.heap e → Q none s5 → wpAny (model prog w) A (isInstance (.ref e) (.type "StopIteration") >>= fun b => if b = true then pure none else throw (.ref e)) Q E s5 := fun s5 e ⟨o, ho, hc⟩ q =>
    wpAny_bind (wpAny_isInstance (T := "StopIteration") (b := true) ⟨o, ho, hc⟩ isSubtype_stop (wpAny_pure q))
  unfold pyNext
  refine wpAny_bind (wpAny_attempt (wpAny_callSpecial?_slot (name := Str.ofString "__next__") hT F.slot_zip_next (wpAny_call_entry F.slot_zip_next hT F.entry_zip_next ?_ (F.args_zip_next_1 _))))
  have core := zip_step (prog := prog) (w := w) (A := A.in1) (s := s) (E := fun e s5 => ∃ ea, e = .ref ea ∧ IsStop s5.heap ea ∧ Q none s5) (Q := fun v s5 => Q (some v) s5) hh D hz hTI hTO h1 (fun hl h' e z' k st => ⟨e, rfl, st, hend hl h' z' k⟩) fun hl h3 z3 o3 r3 sz k3 => ?_
  · refine wpAny_mono core (fun fin s5 ⟨v, e, q⟩ => ⟨v, e, ?_⟩) fun e s5 ⟨ea, eq, st, q⟩ => ?_
    · exact wpAny_pure q
    · subst eq
      exact stop s5 ea st q
  · refine wpAny_mono (hgo hl h3 z3 o3 r3 sz k3) (fun v s4 hv => hv) fun e s4 ⟨z4, st, k⟩ => ⟨z4, st, fun h' ea eq st' z' k' => ⟨ea, eq, st', k h' ea eq st' z' k'⟩⟩
end
end L2.My
/-! zip(range(n), generator) made -/
namespace L2.My
open PySem PySem.Spec PyProof.Rows GenW L2
abbrev zg1 (h : Heap) (n : Int) : Heap := h.push { cls := .type "range_iterator", data := .fields #[rawInt 0, rawInt (Builtin.Range.rangeSize 0 n 1), rawInt 1] }
abbrev zg2 (h : Heap) (a : Addr) (n : Int) : Heap := (zg1 h n).push { cls := .type "tuple", data := .seq #[.ref h.objs.size, .ref a] }
abbrev zg3 (h : Heap) (a : Addr) (n : Int) : Heap := (zg2 h a n).push { cls := .type "tuple", data := .seq #[.none, .none] }
abbrev zg4 (h : Heap) (a : Addr) (n : Int) : Heap := (zg3 h a n).push { cls := .type "zip", data := .fields #[.none, .bool false, .bool false, .ref (zg1 h n).objs.size, .ref (zg2 h a n).objs.size] }
theorem meets_zipG (r a : Addr) (n : Int) (t u v : Tok) (g : Nat) (hs : Builtin.Range.small 0 n 1 = true) :
    Meets (Builtin.«zip.__new__» ⟨[.type "zip", .ref r, .ref a], []⟩) (fun _ R s => IsRange s.heap r 0 n 1 t u v ∧ s.heap.IsGen a g ∧ R (.ok (.ret (.ref (zg3 s.heap a n).objs.size))) { s with heap := zg4 s.heap a n }) :=
  .of_wp fun prog w A R s h => by
    obtain ⟨hp, gs, d, tk, os⟩ := s; obtain ⟨h1, h2, h⟩ := h
    have hsub := sub_zip
    have r1 : IsRange (Shared.heap ⟨hp, gs, d, tk, os⟩) r 0 n 1 t u v := h1
    have r2 : Heap.IsGen (Shared.heap ⟨zg1 hp n, gs, d, tk, os⟩) a g := h2.keeps fun b o e => Heap.get?_push_of_some _ e
    wp_walk using wpAny_pyIter_range r1 hs, wpAny_pyIter_gen r2
    exact ⟨_, rfl, h⟩
section
variable {prog : Program} {w : World} {A : Around} {E : Value → Shared → Prop} {s : Shared}
theorem call_zipG {r a : Addr} {n : Nat} {t u v : Tok} {g : Nat} {Q : Value → Shared → Prop} (hn : (n : Int) < 2 ^ 62) (h1 : IsRange s.heap r 0 n 1 t u v) (h2 : s.heap.IsGen a g)
    (h : ∀ h', IsZip h' (s.heap.objs.size + 3) (s.heap.objs.size + 1) (s.heap.objs.size + 2) .none → IsPair h' (s.heap.objs.size + 1) (.ref s.heap.objs.size) (.ref a) → IsPair h' (s.heap.objs.size + 2) .none .none → IsRangeIter h' s.heap.objs.size 0 n 1 →
      h'.objs.size = s.heap.objs.size + 4 → (∀ c o, s.heap.get? c = some o → h'.get? c = some o) → Q (.ref (s.heap.objs.size + 3)) { s with heap := h' }) :
    wpAny (model prog w) A (call (.type "zip") [.ref r, .ref a]) Q E s := by
  have hs : Builtin.Range.small 0 n 1 = true := small_one (by decide) (by decide) (by omega) hn
  have hsz : Builtin.Range.rangeSize 0 (n : Int) 1 = n := by
    rw [rangeSize_one]
    split <;> omega
  refine callType_new F.called_zip (by decide) (F.typeCall_zip_2 _ _) (F.newCall_zip_2 _ _) (fun obj => F.args_object_init_3 obj _ _) F.entry_zip_new (meets_zipG r a n t u v g hs) ⟨h1, h2, ?_⟩
  have e1 : (zg1 s.heap n).objs.size = s.heap.objs.size + 1 := Heap.size_push ..
  have e2 : (zg2 s.heap a n).objs.size = s.heap.objs.size + 2 := by rw [Heap.size_push, e1]
  have e3 : (zg3 s.heap a n).objs.size = s.heap.objs.size + 3 := by rw [Heap.size_push, e2]
  have e4 : (zg4 s.heap a n).objs.size = s.heap.objs.size + 4 := by rw [Heap.size_push, e3]
  have p1 : IsRangeIter (zg1 s.heap n) s.heap.objs.size 0 n 1 := by
    have e := Heap.get?_push_size s.heap (o := { cls := .type "range_iterator", data := .fields #[rawInt 0, rawInt (Builtin.Range.rangeSize 0 n 1), rawInt 1] }) rfl
    rw [hsz] at e
    unfold zg1
    rw [hsz]
    exact e
  have p2 : IsPair (zg2 s.heap a n) (zg1 s.heap n).objs.size (.ref s.heap.objs.size) (.ref a) := Heap.get?_push_size _ rfl
  have p3 : IsPair (zg3 s.heap a n) (zg2 s.heap a n).objs.size .none .none := Heap.get?_push_size _ rfl
  have p4 : IsZip (zg4 s.heap a n) (zg3 s.heap a n).objs.size (zg1 s.heap n).objs.size (zg2 s.heap a n).objs.size .none := Heap.get?_push_size _ rfl
  have k2 : ∀ c o, (zg1 s.heap n).get? c = some o → (zg4 s.heap a n).get? c = some o := fun c o e => Heap.get?_push_of_some _ (Heap.get?_push_of_some _ (Heap.get?_push_of_some _ e))
  have kk := h (zg4 s.heap a n) (by rw [← e1, ← e2, ← e3]; exact p4) (by rw [← e1]; exact Heap.get?_push_of_some _ (Heap.get?_push_of_some _ p2)) (by rw [← e2]; exact Heap.get?_push_of_some _ p3) (k2 _ _ p1) e4 fun c o e => k2 c o (Heap.get?_push_of_some _ e)
  exact ⟨⟨_, p4, rfl⟩, by rw [e3]; exact kk⟩
end
/-! ### an expression whose value is a generator that has not begun -/
abbrev TGN := L2.St → Hp → Nat → (List V → Hp → Prop) → Prop
structure PGenN (X : Cx) (k : Nat) (e : Expr) (tg : TGN) : Prop where
  run : ∀ (pins : List (Addr × Obj)) (s : Shared) (σ : L2.St) (H : Hp) (m : Nat) (out : List V → Hp → Prop), Inv X pins σ H s → tg σ H m out → wpAny (model X.prog X.w) X.A (eval e X.env)
    (fun u s' => ∃ a g c σg XA H1 sc, u = Value.ref a ∧ Inv X pins σ H1 sc ∧ NMade X.prog X.w k X.stack H1 sc m out s' a g c σg XA) X.xe s
section
variable {X : Cx} {k : Nat} {f C : Addr} {fd : FuncData} {m : Str} {pos apos : Pos} {o : Expr} {ta : TE} {sp : SpN}
def tMethN (C : Addr) (m : Str) (sp : SpN) (ta : TE) : TGN := fun σ H n out => ta σ H fun x H1 => ∃ a dx fs, x = .ref a ∧ H1 a = some (.ins C dx fs) ∧ fs.lookup m = none ∧ sp [.ref a] H1 n out
/-- o.m() of a generator method -/
theorem pgn_meth0 {pl : Sem Bool} (he : PE X o ta) (c : Cls X.K C) (hm : Meth X.K C m f) (F : GFnN X.prog X.w X.K X.mg X.base k f fd ["self"] sp) (hr : Room k X.A) (hb : Binds X.K fd ["self"] [])
    (ht : eval (.Call (.Attribute o m apos) [] [] pos) X.env = (do
      let ov ← eval o X.env
      standAt apos.atName
      let (f, first) ← holding [ov] (getMethod ov m pl)
      callWith pos f first (backTo pos (starEach [] X.env)) (backToKw pos (keywordEach [] X.env))) := by rfl) : PGenN X k (.Call (.Attribute o m apos) [] [] pos) (tMethN C m sp ta) := by
  refine ⟨fun pins s σ H n out I h => ?_⟩
  refine PySem.W.methodCall_KW (pl := pl) (thn (he.run pins s σ H _ I h) fun u s1 ⟨x, H1, I1, rx, a, dx, fs, ex, ea, l, q⟩ => ?_) ht
  subst ex
  obtain rfl : u = Value.ref a := rx
  refine getmeth_ok I1 ea c hm l (PySem.W.callWith_K0 (first := [.ref a]) I1.kIn hm.kp ?_)
  have hb1 := hb s1 [.ref a] I1.kIn rfl
  refine wpAny_call (codeAny_mono (F.run X.A X.stack s1 H1 ⟨[.ref a], []⟩ [.ref a] [.ref a] n out hr I1.env0 hb1 (.cons rfl .nil) q) fun r s' hq => ?_)
  cases r with
  | error e => exact False.elim hq
  | ok fl =>
    cases fl with
    | ret u =>
      obtain ⟨a', g, c', σg, XA, rfl, M⟩ := hq
      exact ⟨a', g, c', σg, XA, H1, s1, rfl, I1, M⟩
    | next => exact False.elim hq
    | brk => exact False.elim hq
    | cont => exact False.elim hq
end
end L2.My
/-! [y for x, y in zip(range(n), generator)] -/
namespace L2.My
open PySem PySem.Spec PyProof.Rows GenW L2
/-- n is asked at most; the list of what came is a new object -/
def tZipN (te : TE) (tg : TGN) : TE := fun σ H Q => te σ H fun v H1 => ∃ n : Nat, v = .int n ∧ 0 < n ∧ (n : Int) < 2 ^ 62 ∧ n ≤ sizeLine ∧ tg σ H1 n fun ys H2 => ∀ D, H2 D = none → Q (.ref D) (upd H2 D (.lst ys))
section
variable {X : Cx} {B : Around} {XA : Around → Cx} {D a g Z TI TO i1 C : Nat} {n : Nat} {out : List V → Hp → Prop}
/-- ahead of the next item: k have come -/
structure ZAt (X : Cx) (B : Around) (XA : Around → Cx) (D a g Z TI TO i1 C n : Nat) (out : List V → Hp → Prop) (k : Nat) (s : Shared) (ys : List V) (σ : L2.St) (H : Hp) (gs : GenState) (x0 y0 : Value) (m : Str → Option Value) : Prop where
  len : ys.length = k
  ni : NI (XA B) D [a, Z, TI, TO, i1, C] ys σ H s s
  z : IsZip s.heap Z TI TO .none
  ti : IsPair s.heap TI (.ref i1) (.ref a)
  to : IsPair s.heap TO x0 y0
  rg : IsRangeIter s.heap i1 k ((n : Int) - k) 1
  ns : s.heap.Ns C m
  gen : s.heap.IsGen a g
  st : s.gens[g]? = some gs
  goes : k < n → ∀ s', NI (XA B) D [a, Z, TI, TO, i1, C] ys σ H s' s' → gs.Goes (model X.prog X.w) B (NR (XA B) D [a, Z, TI, TO, i1, C] n out) (NY (XA B) D [a, Z, TI, TO, i1, C] n out) (n - k) (.send .none) s'
  fin : k = n → out ys H
/-- the consumer's own objects stand -/
theorem own_there {s' : Shared} {x y f : Value} {l r : Int} {m : Str → Option Value} (hg : s'.heap.IsGen a g) (hz : IsZip s'.heap Z TI TO f) (ht : IsPair s'.heap TI (.ref i1) (.ref a)) (ho : IsPair s'.heap TO x y) (hr : IsRangeIter s'.heap i1 l r 1) (hc : s'.heap.Ns C m) :
    ∀ b ∈ [a, Z, TI, TO, i1, C], ∃ o, s'.heap.get? b = some o ∧ ∀ v, o.data ≠ .cell v := by
  intro b hb
  simp only [List.mem_cons, List.not_mem_nil, or_false] at hb
  rcases hb with rfl | rfl | rfl | rfl | rfl | rfl
  · obtain ⟨o, nm, qn, e, _, d, _⟩ := hg
    exact ⟨o, e, fun v z => by rw [d] at z; cases z⟩
  · exact ⟨_, hz, fun v z => by cases z⟩
  · exact ⟨_, ht, fun v z => by cases z⟩
  · exact ⟨_, ho, fun v z => by cases z⟩
  · exact ⟨_, hr, fun v z => by cases z⟩
  · obtain ⟨o, es, ep, e, d, _⟩ := hc
    exact ⟨o, e, fun v z => by rw [d] at z; cases z⟩
/-- the addresses differ -/
structure ZDif (D a Z TI TO i1 C : Nat) : Prop where
  zd : ZipD Z TI TO i1
  az : a ≠ Z
  at_ : a ≠ TI
  ao : a ≠ TO
  ai : a ≠ i1
  ac : a ≠ C
  ad : a ≠ D
  dz : D ≠ Z
  dt : D ≠ TI
  do_ : D ≠ TO
  di : D ≠ i1
  dc : D ≠ C
  cz : C ≠ Z
  ct : C ≠ TI
  co : C ≠ TO
  ci : C ≠ i1
theorem gen_one {h h' : Heap} {b : Addr} {gg : Nat} (hg : h.IsGen b gg) (k : ∀ o, h.get? b = some o → h'.get? b = some o) : h'.IsGen b gg := by
  obtain ⟨o, nm, qn, e, r⟩ := hg
  exact ⟨o, nm, qn, k o e, r⟩
theorem ns_one {h h' : Heap} {b : Addr} {m : Str → Option Value} (hn : h.Ns b m) (k : ∀ o, h.get? b = some o → h'.get? b = some o) : h'.Ns b m := by
  obtain ⟨o, es, ep, e, r⟩ := hn
  exact ⟨o, es, ep, k o e, r⟩
theorem NI.bare {Y : Cx} {S : Addr} {ad : List Addr} {ys : List V} {σ : L2.St} {H : Hp} {s₀ s : Shared} (h : NI Y S ad ys σ H s₀ s) : AllBare s.gens := by
  obtain ⟨_, _, _, _, _, I, _⟩ := h
  exact I.bare
theorem NI.lim {Y : Cx} {S : Addr} {ad : List Addr} {ys : List V} {σ : L2.St} {H : Hp} {s₀ s : Shared} (h : NI Y S ad ys σ H s₀ s) : s.heap.NoLimit := by
  obtain ⟨_, _, _, _, _, I, _⟩ := h
  exact I.nolimit
/-- what is known where an item has come -/
structure ZGave (X : Cx) (B : Around) (XA : Around → Cx) (D a g Z TI TO i1 C n : Nat) (out : List V → Hp → Prop) (k : Nat) (s1 : Shared) (gs' : GenState) (ys : List V) (x : V) (v : Value) (tk : Tok) (σ : L2.St) (H : Hp) (T : Addr) (m : Str → Option Value) : Prop where
  lt : k < n
  len : ys.length = k
  rel : RelV x v
  ni : NI (XA B) D [a, Z, TI, TO, i1, C] ys σ H s1 s1
  st : s1.gens[g]? = some gs'
  z : IsZip s1.heap Z TI TO (rawInt T)
  ti : IsPair s1.heap TI (.ref i1) (.ref a)
  to : IsPair s1.heap TO (.int k tk) v
  rg : IsRangeIter s1.heap i1 ((k : Int) + 1) ((n : Int) - k - 1) 1
  ns : s1.heap.Ns C m
  gen : s1.heap.IsGen a g
  tup : IsPair s1.heap T (.int k tk) v
  tz : T ≠ Z
  last : n - k = 1 → out (ys ++ [x]) H
  goes : ∀ j, n - k = j + 2 → ∀ s', NI (XA B) D [a, Z, TI, TO, i1, C] (ys ++ [x]) σ H s' s' → gs'.Goes (model X.prog X.w) B (NR (XA B) D [a, Z, TI, TO, i1, C] n out) (NY (XA B) D [a, Z, TI, TO, i1, C] n out) (j + 1) (.send .none) s'
/-- the zip's next item -/
theorem zip_turn {A : Around} {k kr : Nat} {s : Shared} {ys : List V} {σ : L2.St} {H : Hp} {gs : GenState} {x0 y0 : Value} {m : Str → Option Value} {Q : Option Value → Shared → Prop} {E : Value → Shared → Prop} (hA : Room (kr + 2) A) (hB : B = A.in1.in1)
    (df : ZDif D a Z TI TO i1 C) (hoff : ∀ b ∈ D :: [a, Z, TI, TO, i1, C], Off (XA B) b) (hpn : (XA B).pn = []) (hkn : k ≤ n) (q : ZAt X B XA D a g Z TI TO i1 C n out k s ys σ H gs x0 y0 m)
    (hend : ∀ s' ys' σ' H', NI (XA B) D [a, Z, TI, TO, i1, C] ys' σ' H' s' s' → s'.heap.Ns C m → ys'.length ≤ n → out ys' H' → Q none s')
    (hitem : ∀ (s1 : Shared) (gs' : GenState) (ys' : List V) (x : V) (v : Value) (tk : Tok) (σ' : L2.St) (H' : Hp) (T : Addr), ZGave X B XA D a g Z TI TO i1 C n out k s1 gs' ys' x v tk σ' H' T m → Q (some (.ref T)) s1) :
    wpAny (model X.prog X.w) A (pyNext (.ref Z)) Q E s := by
  subst hB
  have off : ∀ (b : Nat) (o : Obj), b ∉ D :: [a, Z, TI, TO, i1, C] → b ≠ Z ∧ b ≠ TO ∧ b ≠ i1 ∧ b ≠ D ∧ b ≠ C := fun b _ hb => by
    simp only [List.mem_cons, List.not_mem_nil, or_false, not_or] at hb
    exact ⟨hb.2.2.1, hb.2.2.2.2.1, hb.2.2.2.2.2.1, hb.1, hb.2.2.2.2.2.2⟩
  obtain ⟨_, _, acc, c, rv0, e0⟩ := q.ni.at
  have zd := df.zd
  refine next_zip (A := A) hA.hd zd q.z q.ti q.to q.rg (fun hl h' z' kp => ?_) fun hl h3 z3 o3 r3 sz3 k3 => ?_
  · have hk : k = n := by omega
    have gen' := gen_one q.gen fun o e => kp a o df.az e
    have ns' := ns_one q.ns fun o e => kp C o df.cz e
    refine hend { s with heap := h' } ys σ H (q.ni.turn hoff hpn rfl q.ni.bare (fun b o hb e => kp b o (off b o hb).1 e) ⟨acc, c, rv0, kp _ _ df.dz e0⟩ ?_) ns' (by rw [q.len]; exact hkn) (q.fin hk)
    exact own_there (s' := { s with heap := h' }) gen' z' (kp _ _ zd.tz q.ti) (kp _ _ zd.oz q.to) (kp _ _ zd.iz q.rg) ns'
  · have hk : k < n := by omega
    have gen3 : h3.IsGen a g := gen_one q.gen fun o e => k3 a o df.az df.ao df.ai e
    have ns3 : h3.Ns C m := ns_one q.ns fun o e => k3 C o df.cz df.co df.ci e
    have ti3 : IsPair h3 TI (.ref i1) (.ref a) := k3 _ _ zd.tz zd.to zd.ti q.ti
    have NI3 : NI (XA A.in1.in1) D [a, Z, TI, TO, i1, C] ys σ H { s with heap := h3, toks := s.toks + 1 } { s with heap := h3, toks := s.toks + 1 } :=
      q.ni.turn hoff hpn rfl q.ni.bare (fun b o hb e => k3 b o (off b o hb).1 (off b o hb).2.1 (off b o hb).2.2.1 e) ⟨acc, c, rv0, k3 _ _ df.dz df.do_ df.di e0⟩ (own_there (s' := { s with heap := h3, toks := s.toks + 1 }) gen3 z3 ti3 o3 r3 ns3)
    have NI4 : NI (XA A.in1.in1) D [a, Z, TI, TO, i1, C] ys σ H (({ s with heap := h3, toks := s.toks + 1 } : Shared).setGen g .running) (({ s with heap := h3, toks := s.toks + 1 } : Shared).setGen g .running) :=
      NI3.turn hoff hpn rfl (allBare_setGen NI3.bare rfl) (fun b o _ e => e) ⟨acc, c, rv0, k3 _ _ df.dz df.do_ df.di e0⟩ (own_there (s' := ({ s with heap := h3, toks := s.toks + 1 } : Shared).setGen g .running) gen3 z3 ti3 o3 r3 ns3)
    have hgl : g < s.gens.size := (Array.getElem?_eq_some_iff.mp q.st).1
    have dp : A.in1.depth < recursionLimit := by
      have := hA.dp
      show A.depth < recursionLimit
      omega
    refine wpAny_gsz (s := { s with heap := h3, toks := s.toks + 1 }) (n := g + 1) hgl ?_
    refine next_gen (A := A.in1) (s := { s with heap := h3, toks := s.toks + 1 }) (n := n - k) hA.hd NI3.lim dp gen3 q.st (q.goes hk _ NI4) (fun v s1 gs' hb hv hsz => ?_) fun r s1 hr => ?_
    · obtain ⟨ys', x, σ', H', e1, rv, NI1, f0, f1⟩ := hv
      have same := NI1.same
      have at_ : ∀ {b o}, b ∈ D :: [a, Z, TI, TO, i1, C] → h3.get? b = some o → s1.heap.get? b = some o := fun {b o} hb e => (same b hb).trans e
      obtain ⟨_, _, acc1, c1, rv1, e1D⟩ := NI1.at
      have z1 : IsZip s1.heap Z TI TO .ellipsis := at_ (by simp) z3
      have o1 : IsPair s1.heap TO (.int k s.toks) y0 := at_ (by simp) o3
      have r1 : IsRangeIter s1.heap i1 ((k : Int) + 1) ((n : Int) - k - 1) 1 := at_ (by simp) r3
      have t1 : IsPair s1.heap TI (.ref i1) (.ref a) := at_ (by simp) ti3
      have gen1 : s1.heap.IsGen a g := gen_one gen3 fun o e => at_ (by simp) e
      have ns1 : s1.heap.Ns C m := ns_one ns3 fun o e => at_ (by simp) e
      refine ⟨z1, o1, fun h' z' o' t' kp => ?_⟩
      have kp : ∀ c o, c ≠ Z → c ≠ TO → s1.heap.get? c = some o → h'.get? c = some o := kp
      have gen' := gen_one gen1 fun o e => kp a o df.az df.ao e
      have ns' := ns_one ns1 fun o e => kp C o df.cz df.co e
      have ti' := kp _ _ zd.tz zd.to t1
      have rg' := kp _ _ zd.iz zd.oi.symm r1
      have bare' : AllBare (s1.setGen g gs').gens := allBare_setGen NI1.bare hb
      have hs1 : g < s1.gens.size := by
        have z : (s1.setGen g gs').gens.size = s1.gens.size := setGen_size _ _ _
        omega
      refine hitem { s1.setGen g gs' with heap := h' } gs' ys' x v s.toks σ' H' s1.heap.objs.size ⟨hk, by omega, rv, ?_, setGen_at hs1, z', ti', o', rg', ns', gen', t', Nat.ne_of_gt (Heap.lt_size z1), fun z => f0 (by omega), fun j hj s' hs' => ?_⟩
      · exact NI1.turn hoff hpn rfl bare' (fun b o hbb e => kp b o (off b o hbb).1 (off b o hbb).2.1 e) ⟨acc1, c1, rv1, kp _ _ df.dz df.do_ e1D⟩ (own_there (s' := { s1.setGen g gs' with heap := h' }) gen' z' ti' o' rg' ns')
      · have gg := f1 (by omega) s' hs'
        rw [hj] at gg
        exact gg
    · obtain ⟨rfl, ys', σ', H', e1, NI1, oo⟩ := hr
      refine ⟨rfl, fun h' e kp st _ _ => ?_⟩
      have same := NI1.same
      have at_ : ∀ {b o}, b ∈ D :: [a, Z, TI, TO, i1, C] → h3.get? b = some o → h'.get? b = some o := fun {b o} hb e => kp _ _ ((same b hb).trans e)
      have z1 : IsZip h' Z TI TO .ellipsis := at_ (by simp) z3
      refine ⟨z1, ⟨e, rfl, st⟩, fun h2 ea _ _ z2 k2 => ?_⟩
      have k2 : ∀ c o, c ≠ Z → h'.get? c = some o → h2.get? c = some o := k2
      obtain ⟨_, _, acc1, c1, rv1, e1D⟩ := NI1.at
      have gen' : h2.IsGen a g := gen_one gen3 fun o e => k2 _ _ df.az (at_ (by simp) e)
      have ns' : h2.Ns C m := ns_one ns3 fun o e => k2 _ _ df.cz (at_ (by simp) e)
      refine hend { s1.setGen g .finished with heap := h2 } ys' σ' H' (NI1.turn hoff hpn rfl (allBare_setGen NI1.bare rfl) (fun b o hb e => k2 b o (off b o hb).1 (kp _ _ e)) ⟨acc1, c1, rv1, k2 _ _ df.dz (kp _ _ e1D)⟩ ?_) ns' (by omega) oo
      exact own_there (s' := { s1.setGen g .finished with heap := h2 }) gen' z2 (k2 _ _ zd.tz (at_ (by simp) ti3)) (k2 _ _ zd.oz (at_ (by simp) o3)) (k2 _ _ zd.iz (at_ (by simp) r3)) ns'
end
end L2.My
/-! [y for x, y in zip(range(n), generator)] -/
namespace L2.My
open PySem PySem.Spec PyProof.Rows GenW L2
section
variable {X : Cx}
theorem ne_addr {a b : Nat} (h : a ≠ b) : @Ne Addr a b := h
theorem mk_dif {a N : Nat} (h : a < N) : ZDif (N + 4) a (N + 3) (N + 1) (N + 2) N (N + 5) := by
  refine ⟨⟨?_, ?_, ?_, ?_, ?_, ?_⟩, ?_, ?_, ?_, ?_, ?_, ?_, ?_, ?_, ?_, ?_, ?_, ?_, ?_, ?_, ?_⟩ <;> exact ne_addr (by omega)
theorem tup_of {h : Heap} {T : Addr} {u v : Value} (ht : IsPair h T u v) : IsTup h T #[u, v] := ⟨_, ht, rfl, 0, rfl⟩
theorem pe_zipN {ex G : Expr} {x y : Str} {xp yp yp2 zp rp rpos zpos tpos pos : Pos} {kk : Nat} {scope : Scope} {own : List (Str × Nat)} {k : Nat} {te : TE} {tg : TGN} (ok : BlkOk X.N X.env.scope scope own) (he : PE X ex te) (hG : PGenN X k G tg) (hr : Room (k + 2) X.A)
    (hgz : Gl X "zip") (hmz : X.mg "zip" = none) (hgr : Gl X "range") (hmr : X.mg "range" = none)
    (hkx : ∀ cl C, (compEnvC scope cl C X.env).kindOf x = some .local) (hky : ∀ cl C, (compEnvC scope cl C X.env).kindOf y = some .local) (hdy : (y == ("__debug__" : Str)) = false := by decide)
    (ha1 : starEach [.Call (.Name "range" rp) [ex] [] rpos, G] X.env = (false, eval (.Call (.Name "range" rp) [ex] [] rpos) X.env) :: starEach [G] X.env := by rfl) (ha2 : starEach [G] X.env = (false, eval G X.env) :: starEach [] X.env := by rfl)
    (ha3 : starEach [ex] X.env = (false, eval ex X.env) :: starEach [] X.env := by rfl) (hpl : (backTo zpos (starEach [G] X.env)).any (·.1) = false := by rfl)
    (hs : ∀ v, foldedSetIterable (.Call (.Name "zip" zp) [.Call (.Name "range" rp) [ex] [] rpos, G] [] zpos) X.env v = pure v := by intro _; rfl) :
    PE X (.ListComp (.Name y yp) [⟨.Tuple [.Name x xp, .Name y yp2] kk tpos, .Call (.Name "zip" zp) [.Call (.Name "range" rp) [ex] [] rpos, G] [] zpos, [], 0⟩] scope pos) (tZipN te tg) := by
  refine ⟨fun pins s σ H Q I h => ?_⟩
  rw [eval_ListComp]
  have hfree : ∀ z ∈ scope.names, z.2 = .free → ∃ c, X.env.cells.lookup z.1 = some c := fun z hz e => by
    rcases ok.free z hz e with q | q
    · exact I.ok.has _ (.inl q)
    · exact I.ok.has _ (.inr q)
  refine wpAny_comprehension_free (use := none) rfl hs (closure_ok hfree) ok.kind (fun z hz e => by rw [ok.uniq z hz, e]) ?_
  refine Call_ (ld_blt I hgz hmz PyProof.Rows.boot_zip (PyProof.Rows.callWith_type1 (PyProof.Rows.args_cons ?_ ha1) ha1 hpl))
  refine Call_ (ld_blt I hgr hmr boot_range (PyProof.Rows.callWith_type1 (PyProof.Rows.args_cons (thn (he.run pins s σ H _ I h) fun v s1 ⟨v1, H1, I1, r1, q1⟩ => PyProof.Rows.args_nil ?_) ha3) ha3 rfl))
  obtain ⟨n, rfl, n0, n1, n2, q⟩ := q1
  obtain ⟨tk, rfl⟩ := r1
  refine call_range_1 ?_
  -- the range
  have fr := I1.fpOk (b := s1.heap.objs.size) (Nat.le_refl _) (I1.hok.fresh (Nat.le_refl _))
  obtain ⟨s2, hs2⟩ : ∃ s2 : Shared, s2 = { s1 with heap := s1.heap.push { cls := .type "range", data := .fields #[.int 0 s1.toks, .int n tk, .int 1 (s1.toks + 1)] }, toks := s1.toks + 1 + 1 } := ⟨_, rfl⟩
  have rr : IsRange s2.heap s1.heap.objs.size 0 n 1 s1.toks tk (s1.toks + 1) := by
    rw [hs2]
    exact Heap.get?_push_size _ rfl
  have I2 : Inv X pins σ H1 s2 := by
    rw [hs2]
    exact I1.kept fun b o e => Heap.get?_push_of_some _ e
  rw [← hs2]
  clear hs2
  generalize s1.heap.objs.size = r at fr rr ⊢
  generalize s1.toks = t1 at rr
  have I3 : Inv X ((r, { cls := .type "range", dict := none, data := .fields #[.int 0 t1, .int n tk, .int 1 (t1 + 1)], slots := #[] }) :: pins) σ H1 s2 := I2.pins_of fun p hp => by
    rcases List.mem_cons.mp hp with rfl | hp
    · exact ⟨rr, fr.1, fr.2.1, fr.2.2.1, fun v z => by cases z⟩
    · exact I2.pin p (List.mem_append_right _ hp)
  -- the generator
  refine PyProof.Rows.args_cons (thn (hG.run _ s2 σ H1 n _ I3 q) fun u s3 hu => PyProof.Rows.args_nil ?_) ha2
  obtain ⟨a, g, c, σg, XA, H2, sc, rfl, I4, M⟩ := hu
  have I5 : Inv X pins σ H2 sc := I4.pins_of fun p hp => I4.pin p (List.mem_append_right _ (List.mem_cons_of_mem _ hp))
  have r3 : IsRange s3.heap r 0 n 1 t1 tk (t1 + 1) := M.keep _ _ (I4.pin _ (List.mem_append_right _ List.mem_cons_self)).1
  refine call_zipG n1 r3 M.gen fun h4 z4 t4 o4 i4 sz4 k4 => ?_
  refine wpAny_pyIter_zip (s := { s3 with heap := h4 }) z4 ?_
  refine wpAny_newObj_type (newEnv_comp ?_) (by show 0 ≤ sizeLine; decide)
  show codeAny _ _ (.compStart _ 0 _ _ (compEnvC scope _ (h4.push { cls := .type "list", data := .seq ([] : List Value).toArray }).objs.size X.env)) (compPost _ _ _ none _ _ (h4.push { cls := .type "list", data := .seq ([] : List Value).toArray }).objs.size) { s3 with heap := pushCells ((h4.push { cls := .type "list", data := .seq ([] : List Value).toArray }).push { cls := .type "dict", data := .dict #[] }) scope.names }
  have szD : (h4.push { cls := .type "list", data := .seq ([] : List Value).toArray }).objs.size = s3.heap.objs.size + 5 := by rw [Heap.size_push, sz4]
  rw [szD]
  obtain ⟨h5, hh5⟩ : ∃ h5 : Heap, h5 = pushCells ((h4.push { cls := .type "list", data := .seq ([] : List Value).toArray }).push { cls := .type "dict", data := .dict #[] }) scope.names := ⟨_, rfl⟩
  have k5 : ∀ b o, h4.get? b = some o → h5.get? b = some o := fun b o e => by
    rw [hh5]
    exact pushCells_keeps _ _ _ _ (Heap.get?_push_of_some _ (Heap.get?_push_of_some _ e))
  have eD : h5.get? (s3.heap.objs.size + 4) = some (lstObj #[] 0) := by
    rw [hh5, ← sz4]
    exact pushCells_keeps _ _ _ _ (Heap.get?_push_of_some _ (Heap.get?_push_size _ rfl))
  have nC : h5.Ns (s3.heap.objs.size + 5) fun _ => none := by
    rw [hh5, ← szD]
    exact Heap.Ns.keeps (Heap.Ns.new ..) fun b o e => pushCells_keeps _ _ _ _ e
  rw [← hh5]
  clear hh5
  have hlt := M.hi
  have hlo := M.lo
  have z5 := k5 _ _ z4
  have t5 := k5 _ _ t4
  have o5 := k5 _ _ o4
  have i5 := k5 _ _ i4
  have eZ : h4.objs.size = s3.heap.objs.size + 4 := sz4
  rw [show ({ s3 with heap := h4 } : Shared).heap.objs.size = s3.heap.objs.size + 4 from sz4]
  have fs5 : ∀ b o, s3.heap.get? b = some o → h5.get? b = some o := fun b o e => k5 _ _ (k4 _ _ e)
  have g5 : h5.IsGen a g := M.gen.keeps fs5
  have hos := M.os
  have hba := M.bare
  obtain ⟨N, hN⟩ : ∃ N, N = s3.heap.objs.size := ⟨_, rfl⟩
  rw [← hN] at hlt z5 t5 o5 i5 eD nC ⊢
  clear z4 t4 o4 i4 sz4 k4 k5 szD eZ
  obtain ⟨ad, had⟩ : ∃ ad, ad = [a, N + 3, N + 1, N + 2, N, N + 5] := ⟨_, rfl⟩
  have df : ZDif (N + 4) a (N + 3) (N + 1) (N + 2) N (N + 5) := mk_dif hlt
  have late : ∀ b ∈ (N + 4) :: [a, N + 3, N + 1, N + 2, N, N + 5], b = a ∨ s3.heap.objs.size ≤ b := fun b hb => by
    rw [← hN]
    simp only [List.mem_cons, List.not_mem_nil, or_false] at hb
    omega
  have hoff : ∀ b ∈ (N + 4) :: [a, N + 3, N + 1, N + 2, N, N + 5], Off (XA X.A.in1.in1) b := fun b hb => M.off _ b (late b hb)
  have room : Room k X.A.in1.in1 := Room.in1 (Room.in1 hr)
  have frames : X.A.in1.in1.frames = some X.stack := I5.ok.frames
  obtain ⟨c1, c2, c3, c4, c5, c6, hpn⟩ := M.cx X.A.in1.in1
  -- the end
  have fin : ∀ (s' : Shared) (ys' : List V) (σ' : L2.St) (H' : Hp) (m : Str → Option Value), NI (XA X.A.in1.in1) (N + 4) [a, N + 3, N + 1, N + 2, N, N + 5] ys' σ' H' s' s' → s'.heap.Ns (N + 5) m → ys'.length ≤ n → (∀ D, H' D = none → Q (.ref D) (upd H' D (.lst ys'))) →
      compPost (model X.prog X.w) X.A X.xe none (EP X pins σ Q) (.ref (N + 4)) (N + 5) (.ok .next) s' := fun s' ys' σ' H' m ni ns le oo => by
    obtain ⟨nD, nad, acc, cc, rv, e4⟩ := ni.at
    obtain ⟨_, _, _, _, _, Ig, _⟩ := ni
    have un : Un (frs X.stack) [] H2 H' sc.heap s'.heap := by
      have b := Ig.base
      unfold Cx.fs at b
      rw [c5, c6, c4, c3] at b
      exact b
    have hok : HOk X.prog X.w H' s'.heap := by
      have b := Ig.hok
      rw [c1, c2] at b
      exact b
    have os : s'.os = sc.os := by
      have b := Ig.os
      rw [c3] at b
      exact b
    have I7 : Inv X pins σ (upd H' (N + 4) (.lst ys')) s' := I5.drained (S := N + 4) (Nat.le_trans hlo (Nat.le_trans (Nat.le_of_lt hlt) (Nat.le_add_right _ _))) (Nat.le_trans le n2) e4 rv .nil os Ig.bare un hok nD
    obtain ⟨f0, f1, f2, f3, f4, f5⟩ := I5.fpOk (b := N + 5) (H' := upd H' (N + 4) (.lst ys')) (Nat.le_trans hlo (Nat.le_trans (Nat.le_of_lt hlt) (Nat.le_add_right _ _))) (by rw [upd_ne df.dc.symm]; exact nad _ (by simp))
    exact ⟨m, ns, fun h'' sb => ⟨.ref (N + 4), _, I7.turned (t' := s'.toks) (fun b o hb e => (sb.2 b hb).trans e) f0 f1 f3 f4 f5, rfl, oo _ nD⟩⟩
  have ce_kind : ∀ cl C, (compEnvC scope cl C X.env).scope.kind = .function := fun _ _ => ok.kind
  have ce_cls : ∀ cl C, ((compEnvC scope cl C X.env).scope.kind == .class || ((compEnvC scope cl C X.env).scope.kind == .module && (compEnvC scope cl C X.env).locals != (compEnvC scope cl C X.env).globals)) = false := fun cl C => by
    rw [ce_kind]
    rfl
  generalize cellsFrom _ scope.names _ = cl
  have NI0 : NI (XA X.A.in1.in1) (N + 4) [a, N + 3, N + 1, N + 2, N, N + 5] [] σg H2 { s3 with heap := h5 } { s3 with heap := h5 } :=
    M.begin_ _ _ _ { s3 with heap := h5 } room frames late hos hba fs5 ⟨0, eD⟩ (own_there (s' := { s3 with heap := h5 }) g5 z5 t5 o5 i5 nC)
  have loop : codeAny (model X.prog X.w) X.A (.compLoop (.ListComp (.Name y yp) [⟨.Tuple [.Name x xp, .Name y yp2] kk tpos, .Call (.Name "zip" zp) [.Call (.Name "range" rp) [ex] [] rpos, G] [] zpos, [], 0⟩] scope pos) 0 (.ref (N + 3)) (.ref (N + 4)) (compEnvC scope cl (N + 5) X.env))
      (compPost (model X.prog X.w) X.A X.xe none (EP X pins σ Q) (.ref (N + 4)) (N + 5)) { s3 with heap := h5 } := by
    refine compLoop_any (fun m s' => ∃ kk ys' σ' H' gs x0 y0 mm, m = n - kk ∧ kk ≤ n ∧ ZAt X X.A.in1.in1 XA (N + 4) a g (N + 3) (N + 1) (N + 2) N (N + 5) n (fun ys H' => ∀ D, H' D = none → Q (.ref D) (upd H' D (.lst ys))) kk s' ys' σ' H' gs x0 y0 mm) ?_ n
      ⟨0, [], σg, H2, .fresh c, .none, .none, fun _ => none, rfl, Nat.zero_le _, rfl, NI0, z5, t5, o5, by simpa using i5, nC, g5, M.fresh, fun _ s' hs' => ⟨rfl, M.wake _ _ _ s' room frames hs'⟩, fun z => absurd z (by omega)⟩
    rintro m s' ⟨kk, ys', σ', H', gs, x0, y0, mm, rfl, hk, q⟩
    refine zip_turn (kr := k) hr rfl df hoff hpn hk q (fun s6 ys6 σ6 H6 ni ns le oo => fin s6 ys6 σ6 H6 mm ni ns le oo) fun s6 gs' ys6 xv v tk6 σ6 H6 T zg => ?_
    obtain ⟨_, _, acc, cc, rv, e6⟩ := zg.ni.at
    show wpAny _ _ (letOwnedTupleGo _ _ _) _ _ _
    refine wpAny_letOwnedTupleGo_zip zg.z fun h7 z7 sb7 => ?_
    have tt : IsPair h7 T (.int kk tk6) v := (sb7.2 _ zg.tz).trans zg.tup
    refine assign_Tuple_tuple (s := { s6 with heap := h7 }) hr.hd (tup_of tt) rfl rfl fun h8 ex8 => ?_
    have k8 : ∀ b o, b ≠ N + 3 → s6.heap.get? b = some o → h8.get? b = some o := fun b o hb e => ex8 b o (Nat.ne_of_lt (Heap.lt_size ((sb7.2 b hb).trans e))) ((sb7.2 b hb).trans e)
    have ns8 : h8.Ns (N + 5) mm := ns_one zg.ns fun o e => k8 _ _ df.cz e
    refine assignInOrder_cons (wpAny_assign_Name (wpAny_storeName_local (hkx cl (N + 5)) ns8 (fun h9 ns9 sb9 => ?_) (ce_cls cl (N + 5))))
    refine assignInOrder_cons (wpAny_assign_Name (wpAny_storeName_local (hky cl (N + 5)) ns9 (fun h10 ns10 sb10 => PyProof.Rows.assignInOrder_nil ?_) (ce_cls cl (N + 5))))
    refine wpAny_tests_nil ?_
    rw [if_pos rfl]
    have k10 : ∀ b o, b ≠ N + 3 → b ≠ N + 5 → s6.heap.get? b = some o → h10.get? b = some o := fun b o h1 h2 e => (sb10.2 b h2).trans ((sb9.2 b h2).trans (k8 b o h1 e))
    refine wpAny_Name (wpAny_loadName_local (v := v) (ce_kind cl (N + 5)) (hky cl (N + 5)) ns10 (if_pos rfl) ?_) hdy
    have e10 : h10.get? (N + 4) = some (lstObj acc cc) := k10 _ _ df.dz df.dc e6
    have len6 : acc.size = kk := by
      have e1 := rv.length
      rw [zg.len] at e1
      simpa using e1.symm
    have hk6 := zg.lt
    refine append_at e10 (fun h11 sb11 e11 => ?_) (by omega)
    have k11 : ∀ b o, b ≠ N + 3 → b ≠ N + 5 → b ≠ N + 4 → s6.heap.get? b = some o → h11.get? b = some o := fun b o h1 h2 h3 e => (sb11.2 b h3).trans (k10 b o h1 h2 e)
    have z11 : IsZip h11 (N + 3) (N + 1) (N + 2) .none := (sb11.2 _ df.dz.symm).trans ((sb10.2 _ df.cz.symm).trans ((sb9.2 _ df.cz.symm).trans (ex8 _ _ (Nat.ne_of_lt (Heap.lt_size z7)) z7)))
    have t11 := k11 _ _ df.zd.tz df.ct.symm df.dt.symm zg.ti
    have o11 := k11 _ _ df.zd.oz df.co.symm df.do_.symm zg.to
    have i11 := k11 _ _ df.zd.iz df.ci.symm df.di.symm zg.rg
    have g11 : h11.IsGen a g := gen_one zg.gen fun o e => k11 _ _ df.az df.ac df.ad e
    have n11 := ns_one ns10 fun o e => (sb11.2 _ df.dc.symm).trans e
    have i12 : IsRangeIter h11 N ((kk + 1 : Nat) : Int) ((n : Int) - ((kk + 1 : Nat) : Int)) 1 := by
      have a1 : ((kk + 1 : Nat) : Int) = (kk : Int) + 1 := by omega
      have a2 : (n : Int) - ((kk : Int) + 1) = (n : Int) - kk - 1 := by omega
      rw [a1, a2]
      exact i11
    refine ⟨n - (kk + 1), by omega, kk + 1, ys6 ++ [xv], σ6, H6, gs', _, _, _, rfl, hk6, by rw [List.length_append, zg.len]; rfl, ?_, z11, t11, o11, i12, n11, g11, zg.st, fun hlt' s' hs' => ?_, fun z => zg.last (by omega)⟩
    · refine zg.ni.turn hoff hpn rfl zg.ni.bare (fun b o hb e => ?_) ⟨_, _, ?_, e11⟩ (own_there (s' := { s6 with heap := h11, toks := _ }) g11 z11 t11 o11 i12 n11)
      · simp only [List.mem_cons, List.not_mem_nil, or_false, not_or] at hb
        exact k11 b o hb.2.2.1 hb.2.2.2.2.2.2 hb.1 e
      · rw [Array.toList_push]
        exact rv.append (.cons zg.rel .nil)
    · obtain ⟨j, hj⟩ : ∃ j, n - kk = j + 2 := ⟨n - kk - 2, by omega⟩
      have e := zg.goes j hj s' hs'
      rw [show n - (kk + 1) = j + 1 by omega]
      exact e
  exact codeAny_compStart_list loop (wpAny_pyIter_zip z5 loop)
end
end L2.My
/-! x in o, x not in o for an instance of an own class with __contains__ -/
namespace L2.My
open PySem PySem.Spec PyProof.Rows
section
variable {prog : Program} {w : World} {A : Around} {E : Value → Shared → Prop} {s : Shared} {K : PySem.W.Frag} {x C f : Addr} {ox : Obj} {odd : Option Obj} {v : Value}
theorem contains_inst {Q : Bool → Shared → Prop} (X : K.In s.heap) (I : PySem.W.InstAt s.heap x ox C odd) (hs : PySem.W.findIn K (.ref C) "__contains__" = some (some (.ref f))) (hf : PySem.W.isFn K (.ref f) = true)
    (h : wpAny (model prog w) A (call (.ref f) [.ref x, v]) (fun r s₁ => ∃ b, r = Value.bool b ∧ Q b s₁) E s) : wpAny (model prog w) A (contains (.ref x) v) Q E s := by
  unfold contains
  refine wpAny_holding (wpAny_bind (wpAny_bind (I.type.here ((PySem.W.looks_findIn X hs).here ?_))))
  rw [if_neg (by simp)]
  refine wpAny_bind (PySem.W.unlessNone_K X I hs hf (wpAny_mono h (fun r s' hr => ?_) fun _ _ z => z))
  obtain ⟨b, rfl, q⟩ := hr
  exact wpAny_truthy_bool q
def rInOwn (C : Addr) (sp : Sp) (g : Bool → Bool) (E : XK) : R2 := fun x y H Q => ∃ a dx fs, y = .ref a ∧ H a = some (.ins C dx fs) ∧ sp [.ref a, x] H (fun z H' => ∃ b, z = .bl b ∧ Q (.bl (g b)) H') E
section
variable {X : Cx} {CX : CXT} {n : Nat} {g : Addr} {fd : FuncData} {ps : List Str} {sp : Sp} {E' : XK}
theorem in_core {C : Addr} (hs : PySem.W.findIn X.K (.ref C) "__contains__" = some (some (.ref g))) (hf : PySem.W.isFn X.K (.ref g) = true) (F : FnOk X.prog X.w X.K X.mg X.base CX n g fd ps sp) (bd : Binds X.K fd ps []) (hl : ps.length = 2)
    (hr : Room n X.A) (hx : Passes CX X E') {pins : List (Addr × Obj)} {s : Shared} {σ : St} {H : Hp} {a dx : Addr} {fs : List (Str × V)} {x : V} {v : Value} {R : Bool → Hp → Prop} (I : Inv X pins σ H s) (rx : RelV x v) (ea : H a = some (.ins C dx fs))
    (q : sp [.ref a, x] H (fun z H' => ∃ b, z = .bl b ∧ R b H') E') :
    wpAny (model X.prog X.w) X.A (contains (.ref a) v) (fun b s' => ∃ H', Inv X pins σ H' s' ∧ R b H') X.xe s := by
  obtain ⟨mA, O, _, _, _, _⟩ := ins_get I.hok ea
  obtain ⟨od, J, _⟩ := O.look
  refine contains_inst I.kIn J hs hf (wpAny_call (codeAny_mono (F.run X.A X.stack s H ⟨[.ref a, v], []⟩ [.ref a, v] [.ref a, x] _ E' hr I.env0 (bd s [.ref a, v] I.kIn (by simp [hl])) (.cons rfl (.cons rx .nil)) q) fun r s' hq => ?_))
  cases r with
  | error e => exact hx pins σ H s e s' I hq
  | ok fl =>
    cases fl with
    | ret u =>
      obtain ⟨z, H', I', rz, b, ez, qz⟩ := I.after hq
      subst ez
      cases rz
      exact ⟨b, rfl, H', I', qz⟩
    | next => exact False.elim hq
    | brk => exact False.elim hq
    | cont => exact False.elim hq
theorem op_inOwn {C : Addr} (hs : PySem.W.findIn X.K (.ref C) "__contains__" = some (some (.ref g))) (hf : PySem.W.isFn X.K (.ref g) = true) (F : FnOk X.prog X.w X.K X.mg X.base CX n g fd ps sp) (bd : Binds X.K fd ps []) (hl : ps.length = 2)
    (hr : Room n X.A) (hx : Passes CX X E') : OpR X (compareOp .In) (rInOwn C sp id E') := by
  intro pins s σ H x y v u Q I rx ry h
  obtain ⟨a, dx, fs, rfl, ea, q⟩ := h
  cases ry
  refine wpAny_bind (wpAny_mono (in_core hs hf F bd hl hr hx (R := fun b H' => Q (.bl b) H') I rx ea q) (fun b s' h => ?_) fun _ _ z => z)
  obtain ⟨H', I', qz⟩ := h
  exact wpAny_pure ⟨.bl b, H', I', rfl, qz⟩
theorem op_notInOwn {C : Addr} (hs : PySem.W.findIn X.K (.ref C) "__contains__" = some (some (.ref g))) (hf : PySem.W.isFn X.K (.ref g) = true) (F : FnOk X.prog X.w X.K X.mg X.base CX n g fd ps sp) (bd : Binds X.K fd ps []) (hl : ps.length = 2)
    (hr : Room n X.A) (hx : Passes CX X E') : OpR X (compareOp .NotIn) (rInOwn C sp (fun b => !b) E') := by
  intro pins s σ H x y v u Q I rx ry h
  obtain ⟨a, dx, fs, rfl, ea, q⟩ := h
  cases ry
  refine wpAny_bind (wpAny_mono (in_core hs hf F bd hl hr hx (R := fun b H' => Q (.bl (!b)) H') I rx ea q) (fun b s' h => ?_) fun _ _ z => z)
  obtain ⟨H', I', qz⟩ := h
  exact wpAny_pure ⟨.bl (!b), H', I', rfl, qz⟩
end
end
end L2.My
/-! bool(x) of an instance of an own class with __bool__ -/
namespace L2.My
open PySem PySem.Spec PyProof.Rows
section
variable {prog : Program} {w : World} {A : Around} {E : Value → Shared → Prop} {s : Shared} {K : PySem.W.Frag} {x C f : Addr} {ox : Obj} {odd : Option Obj}
theorem truthy_inst {Q : Bool → Shared → Prop} (X : K.In s.heap) (I : PySem.W.InstAt s.heap x ox C odd) (hs : PySem.W.findIn K (.ref C) "__bool__" = some (some (.ref f))) (hf : PySem.W.isFn K (.ref f) = true)
    (h : wpAny (model prog w) A (call (.ref f) [.ref x]) (fun r s₁ => ∃ b, r = Value.bool b ∧ Q b s₁) E s) : wpAny (model prog w) A (truthy (.ref x)) Q E s := by
  unfold truthy
  first
    | (refine wpAny_bind (m := callSpecial? (.ref x) (Str.ofString "__bool__")) (PySem.W.special_fn X I hs (beq_iff_eq.mp hf) (wpAny_mono h (fun r s' hr => ?_) fun _ _ y => y)))
    | (refine wpAny_bind (wpAny_pure ?_); refine wpAny_bind (m := callSpecial? (.ref x) (Str.ofString "__bool__")) (PySem.W.special_fn X I hs (beq_iff_eq.mp hf) (wpAny_mono h (fun r s' hr => ?_) fun _ _ y => y)))
  obtain ⟨b, rfl, hq⟩ := hr
  exact wpAny_pure hq
theorem bool_own {Q : Value → Shared → Prop} (X : K.In s.heap) (I : PySem.W.InstAt s.heap x ox C odd) (hs : PySem.W.findIn K (.ref C) "__bool__" = some (some (.ref f))) (hf : PySem.W.isFn K (.ref f) = true)
    (h : wpAny (model prog w) A.in1.in1 (call (.ref f) [.ref x]) (fun r s₁ => ∃ b, r = Value.bool b ∧ Q r s₁) E s) : wpAny (model prog w) A (call (.type "bool") [.ref x]) Q E s := by
  refine callType_codes (T := "bool") (Bi := Builtin.«object.__init__») (Q₁ := fun r s₁ => ∃ b, r = Value.bool b ∧ Q r s₁) PySem.F.called_bool (PySem.F.typeCall_bool_1 _) PySem.F.entry_object_init ?_ ?_
  · refine codeAny_of_tree ?_
    show wpAny _ A.in1.in1 (do checkBuiltinCall "bool.__new__" ⟨[.type "bool", .ref x], []⟩; again (.builtin "bool.__new__" ⟨[.type "bool", .ref x], []⟩)) _ _ s
    refine wpAny_bind (wpAny_of_eq (PySem.F.newCall_bool_1 _) (wpAny_pure ⟨plainId_quiet (by decide +kernel) _, codeAny_builtin PySem.F.entry_bool_new ?_⟩))
    rw [Around.under_plainId (by decide +kernel) _]
    have f1 := PySem.F.conv_sub_bool
    have tr : ∀ {Q' : Bool → Shared → Prop} {E' : Value → Shared → Prop}, wpAny (model prog w) A.in1.in1 (call (.ref f) [.ref x]) (fun r s₁ => ∃ b, r = Value.bool b ∧ Q' b s₁) E' s → wpAny (model prog w) A.in1.in1 (truthy (.ref x)) Q' E' s := fun h' => truthy_inst X I hs hf h'
    repeat (any_goals (first | assumption | (with_reducible refine tr (wpAny_mono h (fun r s1 hr => ?_) (fun e s1 he => ?_))) | wp_step))
    all_goals
      obtain ⟨b, rfl, hq⟩ := hr
      exact ⟨b, rfl, wpAny_pure ⟨b, rfl, hq⟩⟩
  · rintro obj s₁ ⟨b, rfl, hq⟩
    exact ⟨PySem.typeIs_bool _ _, PySem.F.args_object_init_2 _ _, object_init_meets PySem.F.called_bool.init.lookup PySem.F.called_bool.made (by decide) prog w A.in1 _ s₁ ⟨PySem.typeIs_bool _ _, rfl, hq⟩⟩
/-- bool(x) of an instance -/
def rBoolOwn (C : Addr) (sp : Sp) (E : XK) : List V → Hp → VK → Prop := fun xs H Q => ∃ a dx fs, xs = [V.ref a] ∧ H a = some (.ins C dx fs) ∧ sp [.ref a] H (fun z H' => ∃ b, z = .bl b ∧ Q z H') E
theorem call_boolOwn {X : Cx} {CX : CXT} {n : Nat} {C g : Addr} {fd : FuncData} {ps : List Str} {sp : Sp} {E : XK} (hs : PySem.W.findIn X.K (.ref C) "__bool__" = some (some (.ref g))) (hf : PySem.W.isFn X.K (.ref g) = true) (F : FnOk X.prog X.w X.K X.mg X.base CX n g fd ps sp) (bd : Binds X.K fd ps []) (hl : ps.length = 1)
    (hr : Room (n + 2) X.A) (hx : Passes CX X E) : CallR X (.type "bool") (rBoolOwn C sp E) := by
  intro pins s σ H xs us Q I r h
  obtain ⟨a, dx, fs, rfl, ea, q⟩ := h
  obtain ⟨u, rfl, ru⟩ := vals1 r
  cases (show u = Value.ref a from ru)
  obtain ⟨mA, O, _, _, _, _⟩ := ins_get I.hok ea
  obtain ⟨od, J, _⟩ := O.look
  have hr2 : Room n X.A.in1.in1 := (show Room (n + 1) X.A.in1 from Room.in1 hr).in1
  refine bool_own I.kIn J hs hf (wpAny_mono (wpAny_call (codeAny_mono (F.run X.A.in1.in1 X.stack s H ⟨[.ref a], []⟩ [.ref a] [.ref a] _ E hr2 I.env0.in1.in1 (bd s [.ref a] I.kIn (by simp [hl])) (.cons rfl .nil) q) fun r s' hq => ?_)) (fun w s' z => z) fun _ _ x => x)
  cases r with
  | error e => exact hx pins σ H s e s' I hq
  | ok fl =>
    cases fl with
    | ret u =>
      obtain ⟨z, H', I', rz, b, ez, qz⟩ := I.after hq
      subst ez
      cases rz
      exact ⟨b, rfl, .bl b, H', I', rfl, qz⟩
    | next => exact False.elim hq
    | brk => exact False.elim hq
    | cont => exact False.elim hq
end
end L2.My
/-! the truth of an instance of an own class with __bool__, where a test asks for it -/
namespace L2.My
open PySem PySem.Spec PyProof.Rows
section
variable {X : Cx} {CX : CXT} {n : Nat} {g C : Addr} {fd : FuncData} {ps : List Str} {sp : Sp} {E' : XK}
theorem tru_own (hs : PySem.W.findIn X.K (.ref C) "__bool__" = some (some (.ref g))) (hf : PySem.W.isFn X.K (.ref g) = true) (F : FnOk X.prog X.w X.K X.mg X.base CX n g fd ps sp) (bd : Binds X.K fd ps []) (hl : ps.length = 1)
    (hr : Room n X.A) (hx : Passes CX X E') : TruR X (fun x H Q => ∃ a dx fs, x = .ref a ∧ H a = some (.ins C dx fs) ∧ sp [.ref a] H (fun z H' => ∃ b, z = .bl b ∧ Q b H') E') := by
  intro pins s σ H x v Q I rx h
  obtain ⟨a, dx, fs, rfl, ea, q⟩ := h
  cases rx
  obtain ⟨mA, O, _, _, _, _⟩ := ins_get I.hok ea
  obtain ⟨od, J, _⟩ := O.look
  refine truthy_inst I.kIn J hs hf (wpAny_call (codeAny_mono (F.run X.A X.stack s H ⟨[.ref a], []⟩ [.ref a] [.ref a] _ E' hr I.env0 (bd s [.ref a] I.kIn (by simp [hl])) (.cons rfl .nil) q) fun r s' hq => ?_))
  cases r with
  | error e => exact hx pins σ H s e s' I hq
  | ok fl =>
    cases fl with
    | ret u =>
      obtain ⟨z, H', I', rz, b, ez, qz⟩ := I.after hq
      subst ez
      cases rz
      exact ⟨b, rfl, H', I', qz⟩
    | next => exact False.elim hq
    | brk => exact False.elim hq
    | cont => exact False.elim hq
end
end L2.My
namespace Met
/-! ### what is told hangs on the set of pairs alone; parts of it -/
section
variable {S S1 S2 : Pr → Prop} {t t1 t2 u : Told}
theorem LeastBy.one {key : Pr → Pr} {e x : Pr} (a : LeastBy key S e) (b : LeastBy key S x) : e = x := by
  rcases a.2 x b.1 with h | h
  · exact h.symm
  · rcases b.2 e a.1 with g | g
    · exact g
    · exact absurd g (Lx_as h)
theorem Each.none_on {f : Nat → Option Pr} (a : Each S f) {n : Nat} (h : f n = none) : ∀ m, n ≤ m → f m = none := by
  intro m
  induction m with
  | zero =>
    intro l
    obtain rfl : n = 0 := by omega
    exact h
  | succ m ih =>
    intro l
    by_cases c : n = m + 1
    · rw [← c]
      exact h
    · exact a.down m (ih (by omega))
theorem Each.inj {f : Nat → Option Pr} (a : Each S f) {m n : Nat} {e : Pr} (h : f m = some e) (g : f n = some e) : m = n := by
  rcases Nat.lt_trichotomy m n with c | c | c
  · exact absurd (a.lt m n e e c h g) (Lx_no _)
  · exact c
  · exact absurd (a.lt n m e e c g h) (Lx_no _)
theorem Each.one {f g : Nat → Option Pr} (a : Each S f) (b : Each S g) : ∀ n, f n = g n := by
  intro n
  induction n using Nat.strongRecOn with
  | ind n ih =>
    cases hf : f n with
    | none =>
      cases hg : g n with
      | none => rfl
      | some x =>
        obtain ⟨k, hk⟩ := a.all x (b.good n x hg)
        by_cases c : k < n
        · have e := ih k c
          rw [hk] at e
          have := b.inj e.symm hg
          omega
        · have e := a.none_on hf k (by omega)
          rw [hk] at e
          cases e
    | some e =>
      obtain ⟨m, hm⟩ := b.all e (a.good n e hf)
      have mn : ¬ m < n := fun c => by
        have z := ih m c
        rw [hm] at z
        have := a.inj z hf
        omega
      by_cases c : m = n
      · rw [← c, hm]
      · cases hg : g n with
        | none =>
          have z := b.none_on hg m (by omega)
          rw [hm] at z
          cases z
        | some x =>
          have l1 := b.lt n m x e (by omega) hg hm
          obtain ⟨k, hk⟩ := a.all x (b.good n x hg)
          rcases Nat.lt_trichotomy k n with d | d | d
          · have z := ih k d
            rw [hk] at z
            have := b.inj z.symm hg
            omega
          · subst d
            rw [hf] at hk
            have z := Option.some.inj hk
            subst z
            exact absurd l1 (Lx_no _)
          · have l2 := a.lt n k e x d hf hk
            exact absurd l1 (Lx_as l2)
theorem Spec.amount_iff (a : Spec S t) {m : Int} (h : t.amount = some m) : 0 ≤ m ∧ ∀ n : Nat, (t.nth n).isSome = true ↔ (n : Int) < m := a.amount m h
theorem Spec.one (a : Spec S t) (b : Spec S u) : t = u := by
  have nth : t.nth = u.nth := funext (a.each.one b.each)
  have near : t.near = u.near := by
    cases h : t.near with
    | none =>
      cases g : u.near with
      | none => rfl
      | some x => exact absurd (b.near x g).1 (a.near0 h x)
    | some e =>
      cases g : u.near with
      | none => exact absurd (a.near e h).1 (b.near0 g e)
      | some x => rw [(a.near e h).one (b.near x g)]
  have soon : t.soon = u.soon := by
    cases h : t.soon with
    | none =>
      cases g : u.soon with
      | none => rfl
      | some x => exact absurd (b.soon x g).1 (a.soon0 h x)
    | some e =>
      cases g : u.soon with
      | none => exact absurd (a.soon e h).1 (b.soon0 g e)
      | some x => rw [(a.soon e h).one (b.soon x g)]
  have no : ∀ {x : Told} {y : Told}, Spec S x → Spec S y → x.late = none → ∀ e, y.late ≠ some e := fun {x y} ax ay h e g => by
    obtain ⟨l1, l2⟩ := ay.late e g
    obtain ⟨z, sz, lz⟩ := ax.late0 h e l1
    rcases l2 z sz with w | w
    · rw [w] at lz
      exact Lx_no _ lz
    · exact Lx_as w lz
  have late : t.late = u.late := by
    cases h : t.late with
    | none =>
      cases g : u.late with
      | none => rfl
      | some x => exact absurd g (no a b h x)
    | some e =>
      cases g : u.late with
      | none => exact absurd h (no b a g e)
      | some x => rw [(a.late e h).one (b.late x g)]
  have amount : t.amount = u.amount := by
    cases h : t.amount with
    | none =>
      cases g : u.amount with
      | none => rfl
      | some m =>
        obtain ⟨m0, mi⟩ := b.amount m g
        have z := a.amount0 h m.toNat
        rw [nth] at z
        have := (mi m.toNat).mp z
        omega
    | some m =>
      obtain ⟨m0, mi⟩ := a.amount m h
      cases g : u.amount with
      | none =>
        have z := b.amount0 g m.toNat
        rw [← nth] at z
        have := (mi m.toNat).mp z
        omega
      | some k =>
        obtain ⟨k0, ki⟩ := b.amount k g
        have e1 := mi k.toNat
        have e2 := ki m.toNat
        rw [nth] at e1
        have f1 := ki k.toNat
        have f2 := mi m.toNat
        rw [nth] at f2
        have : m = k := by
          by_cases c : m < k
          · have z := f2.mp (e2.mpr (by omega))
            omega
          · by_cases d : k < m
            · have z := f1.mp (e1.mpr (by omega))
              omega
            · omega
        rw [this]
  obtain ⟨n1, s1, l1, a1, h1⟩ := t
  obtain ⟨n2, s2, l2, a2, h2⟩ := u
  simp only at nth near soon late amount
  rw [near, soon, late, amount, nth]
theorem told_eq {p q p' q' : Pr} {b b' : Bd} (h : p.1 ≠ 0 ∨ q.1 ≠ 0) (h' : p'.1 ≠ 0 ∨ q'.1 ≠ 0) (s : ∀ e, Good p q b e ↔ Good p' q' b' e) : told p q b = told p' q' b' := by
  have a := told_spec b h
  have c := told_spec b' h'
  have e : Good p q b = Good p' q' b' := funext fun x => propext (s x)
  rw [e] at a
  exact a.one c
/-! ### lists of pairs without doubles -/
theorem nodup_le : ∀ {L M : List Pr}, L.Nodup → (∀ e ∈ L, e ∈ M) → L.length ≤ M.length
  | [], _, _, _ => Nat.zero_le _
  | x :: L, M, h, s => by
    obtain ⟨h1, h2⟩ := List.nodup_cons.mp h
    have hx : x ∈ M := s x List.mem_cons_self
    have ih := nodup_le (L := L) (M := M.erase x) h2 fun e he => by
      have ne : e ≠ x := by
        rintro rfl
        exact h1 he
      exact (List.mem_erase_of_ne ne).mpr (s e (List.mem_cons_of_mem _ he))
    have l := List.length_erase_of_mem hx
    have pos : 0 < M.length := List.length_pos_of_mem hx
    rw [List.length_cons]
    omega
theorem firsts_of {f : Nat → Option Pr} (a : Each S f) : ∀ n : Nat, (∀ i, i < n → (f i).isSome = true) → ∃ L : List Pr, L.Nodup ∧ (∀ e ∈ L, ∃ i, i < n ∧ f i = some e) ∧ L.length = n ∧ ∀ i e, i < n → f i = some e → e ∈ L
  | 0, _ => ⟨[], List.nodup_nil, fun e he => absurd he List.not_mem_nil, rfl, fun i e l => absurd l (Nat.not_lt_zero _)⟩
  | n + 1, h => by
    obtain ⟨L, h1, h2, h3, h4⟩ := firsts_of a n fun i hi => h i (by omega)
    obtain ⟨e, he⟩ := Option.isSome_iff_exists.mp (h n (Nat.lt_succ_self _))
    refine ⟨e :: L, List.nodup_cons.mpr ⟨fun m => ?_, h1⟩, fun x hx => ?_, by rw [List.length_cons, h3], fun i x hi hx => ?_⟩
    · obtain ⟨i, hi, hx⟩ := h2 e m
      have := a.inj hx he
      omega
    · rcases List.mem_cons.mp hx with rfl | m
      · exact ⟨n, Nat.lt_succ_self _, he⟩
      · obtain ⟨i, hi, z⟩ := h2 x m
        exact ⟨i, by omega, z⟩
    · by_cases c : i = n
      · subst c
        rw [he] at hx
        rw [Option.some.inj hx]
        exact List.mem_cons_self
      · exact List.mem_cons_of_mem _ (h4 i x (by omega) hx)
theorem list_of (a : Spec S t) {m : Int} (h : t.amount = some m) : ∃ L : List Pr, L.Nodup ∧ (∀ e, e ∈ L ↔ S e) ∧ (L.length : Int) = m := by
  obtain ⟨m0, mi⟩ := a.amount m h
  obtain ⟨L, h1, h2, h3, h4⟩ := firsts_of a.each m.toNat fun i hi => (mi i).mpr (by omega)
  refine ⟨L, h1, fun e => ⟨fun he => ?_, fun he => ?_⟩, by omega⟩
  · obtain ⟨i, _, z⟩ := h2 e he
    exact a.each.good i e z
  · obtain ⟨n, hn⟩ := a.each.all e he
    have l := (mi n).mp (by rw [hn]; rfl)
    exact h4 n e (by omega) hn
theorem many_of (a : Spec S t) (h : t.amount = none) (n : Nat) : ∃ L : List Pr, L.Nodup ∧ (∀ e ∈ L, S e) ∧ L.length = n := by
  obtain ⟨L, h1, h2, h3, _⟩ := firsts_of a.each n fun i _ => a.amount0 h i
  refine ⟨L, h1, fun e he => ?_, h3⟩
  obtain ⟨i, _, z⟩ := h2 e he
  exact a.each.good i e z
/-- a set within a list has an amount -/
theorem amount_in (a : Spec S t) (M : List Pr) (h : ∀ e, S e → e ∈ M) : ∃ m, t.amount = some m := by
  cases c : t.amount with
  | some m => exact ⟨m, rfl⟩
  | none =>
    obtain ⟨L, h1, h2, h3⟩ := many_of a c (M.length + 1)
    have := nodup_le h1 fun e he => h e (h2 e he)
    omega
theorem amount_box (a : Spec S t) (R : Nat) (h : ∀ e, S e → 0 ≤ e.1 ∧ e.1 ≤ R ∧ 0 ≤ e.2 ∧ e.2 ≤ R) : ∃ m, t.amount = some m := by
  refine amount_in a ((List.range (R + 1)).flatMap fun (i : Nat) => (List.range (R + 1)).map fun (j : Nat) => (((i : Int), (j : Int)) : Pr)) fun e he => ?_
  obtain ⟨h1, h2, h3, h4⟩ := h e he
  refine List.mem_flatMap.mpr ⟨e.1.toNat, List.mem_range.mpr (by omega), List.mem_map.mpr ⟨e.2.toNat, List.mem_range.mpr (by omega), ?_⟩⟩
  exact Prod.ext (by show ((e.1.toNat : Nat) : Int) = e.1; omega) (by show ((e.2.toNat : Nat) : Int) = e.2; omega)
theorem append_nodup {L M : List Pr} (h : L.Nodup) (g : M.Nodup) (d : ∀ e ∈ L, e ∉ M) : (L ++ M).Nodup := by
  induction L with
  | nil => exact g
  | cons x L ih =>
    obtain ⟨h1, h2⟩ := List.nodup_cons.mp h
    refine List.nodup_cons.mpr ⟨fun m => ?_, ih h2 fun e he => d e (List.mem_cons_of_mem _ he)⟩
    rcases List.mem_append.mp m with m | m
    · exact h1 m
    · exact d x List.mem_cons_self m
/-- two parts -/
theorem amount_sum (a : Spec S t) (a1 : Spec S1 t1) (a2 : Spec S2 t2) (h : ∀ e, S e ↔ S1 e ∨ S2 e) (d : ∀ e, S1 e → ¬ S2 e) :
    (t1.amount = none → t.amount = none) ∧ (t2.amount = none → t.amount = none) ∧ ∀ m1 m2, t1.amount = some m1 → t2.amount = some m2 → t.amount = some (m1 + m2) := by
  have inf : ∀ {S' : Pr → Prop} {t' : Told}, Spec S' t' → (∀ e, S' e → S e) → t'.amount = none → t.amount = none := fun {S' t'} a' s c => by
    cases k : t.amount with
    | none => rfl
    | some m =>
      obtain ⟨L, h1, h2, h3⟩ := list_of a k
      obtain ⟨M, g1, g2, g3⟩ := many_of a' c (L.length + 1)
      have := nodup_le g1 fun e he => (h2 e).mpr (s e (g2 e he))
      omega
  refine ⟨inf a1 fun e he => (h e).mpr (.inl he), inf a2 fun e he => (h e).mpr (.inr he), fun m1 m2 k1 k2 => ?_⟩
  obtain ⟨L1, p1, p2, p3⟩ := list_of a1 k1
  obtain ⟨L2, q1, q2, q3⟩ := list_of a2 k2
  obtain ⟨m, hm⟩ := amount_in a (L1 ++ L2) fun e he => by
    rcases (h e).mp he with z | z
    · exact List.mem_append_left _ ((p2 e).mpr z)
    · exact List.mem_append_right _ ((q2 e).mpr z)
  obtain ⟨L, h1, h2, h3⟩ := list_of a hm
  have l1 := nodup_le (M := L1 ++ L2) h1 fun e he => by
    rcases (h e).mp ((h2 e).mp he) with z | z
    · exact List.mem_append_left _ ((p2 e).mpr z)
    · exact List.mem_append_right _ ((q2 e).mpr z)
  have l2 := nodup_le (L := L1 ++ L2) (M := L) (append_nodup p1 q1 fun e he k => d e ((p2 e).mp he) ((q2 e).mp k)) fun e he => by
    rcases List.mem_append.mp he with z | z
    · exact (h2 e).mpr ((h e).mpr (.inl ((p2 e).mp z)))
    · exact (h2 e).mpr ((h e).mpr (.inr ((q2 e).mp z)))
  rw [List.length_append] at l1 l2
  rw [hm]
  congr 1
  omega
/-- one pair more -/
theorem amount_one (a : Spec S t) (a1 : Spec S1 t1) {e : Pr} (h : ∀ x, S x ↔ S1 x ∨ x = e) (d : ¬ S1 e) {m : Int} (k : t1.amount = some m) : t.amount = some (m + 1) := by
  obtain ⟨L1, p1, p2, p3⟩ := list_of a1 k
  obtain ⟨m', hm⟩ := amount_in a (e :: L1) fun x hx => by
    rcases (h x).mp hx with z | z
    · exact List.mem_cons_of_mem _ ((p2 x).mpr z)
    · rw [z]
      exact List.mem_cons_self
  obtain ⟨L, h1, h2, h3⟩ := list_of a hm
  have l1 := nodup_le (M := e :: L1) h1 fun x hx => by
    rcases (h x).mp ((h2 x).mp hx) with z | z
    · exact List.mem_cons_of_mem _ ((p2 x).mpr z)
    · rw [z]
      exact List.mem_cons_self
  have l2 := nodup_le (L := e :: L1) (M := L) (List.nodup_cons.mpr ⟨fun z => d ((p2 e).mp z), p1⟩) fun x hx => by
    rcases List.mem_cons.mp hx with rfl | z
    · exact (h2 x).mpr ((h x).mpr (.inr rfl))
    · exact (h2 x).mpr ((h x).mpr (.inl ((p2 x).mp z)))
  rw [List.length_cons] at l1 l2
  rw [hm]
  congr 1
  omega
end
end Met
namespace Met
/-! ### how large the first pairs are -/
theorem abs_le_mul {x y z : Int} {N : Nat} (h : x * y = z) (hx : x ≠ 0) (hz : z.natAbs ≤ N) : y.natAbs ≤ N := by
  have e : x.natAbs * y.natAbs = z.natAbs := by rw [← Int.natAbs_mul, h]
  have px : 1 ≤ x.natAbs := by omega
  have l : 1 * y.natAbs ≤ x.natAbs * y.natAbs := Nat.mul_le_mul_right _ px
  omega
theorem abs_mul_le {x y : Int} {M N : Nat} (hx : x.natAbs ≤ M) (hy : y.natAbs ≤ N) : (x * y).natAbs ≤ M * N := by
  rw [Int.natAbs_mul]
  exact Nat.mul_le_mul hx hy
theorem abs_add_le' {x y : Int} {M N : Nat} (hx : x.natAbs ≤ M) (hy : y.natAbs ≤ N) : (x + y).natAbs ≤ M + N := by
  have := Int.natAbs_add_le x y
  omega
theorem tight {p q e s : Pr} {b : Bd} {A D R : Nat} (nz : p.1 ≠ 0 ∨ q.1 ≠ 0) (m : Meet p q e) (k : Keeps b e) (hs : p.1 * s.1 = q.1 * s.2) (no : ¬ Keeps b (e.1 - s.1, e.2 - s.2)) (up' : 0 ≤ s.2)
    (p1 : p.1.natAbs ≤ A) (q1 : q.1.natAbs ≤ A) (p2 : p.2.natAbs ≤ D) (q2 : q.2.natAbs ≤ D) (s1 : s.1.natAbs ≤ A) (s2 : s.2.natAbs ≤ A) (b1 : b.low.natAbs ≤ R) (b2 : ∀ h, b.high = some h → h.natAbs ≤ R) (b3 : b.first.natAbs ≤ R) :
    e.1.natAbs ≤ A * (R + 2 * A) + 2 * D + (R + 2 * A) ∧ e.2.natAbs ≤ A * (R + 2 * A) + 2 * D + (R + 2 * A) := by
  obtain ⟨k1, k2, k3, k4⟩ := k
  have m : p.1 * e.1 + p.2 = q.1 * e.2 + q.2 := m
  by_cases c1 : b.first ≤ e.1 - s.1
  · -- the distance
    have dist : (e.2 - e.1).natAbs ≤ R + 2 * A ∧ s.2 ≠ s.1 := by
      by_cases c2 : b.low ≤ (e.2 - s.2) - (e.1 - s.1)
      · have c3 : ¬ ∀ h, b.high = some h → (e.2 - s.2) - (e.1 - s.1) ≤ h := fun c3 => no ⟨c1, c2, c3, fun r hr => by
          have := k4 r hr
          show e.2 - s.2 < r
          omega⟩
        cases hh : b.high with
        | none => exact absurd (fun h z => by rw [hh] at z; cases z) c3
        | some h =>
          have l := k3 h hh
          have : ¬ (e.2 - s.2) - (e.1 - s.1) ≤ h := fun z => c3 fun h' z' => by
            rw [hh] at z'
            cases z'
            exact z
          have := b2 h hh
          omega
      · omega
    obtain ⟨d1, d2⟩ := dist
    have pq : p.1 - q.1 ≠ 0 := fun z => by
      have e1 : p.1 = q.1 := by omega
      rw [e1] at hs nz
      have z2 : q.1 ≠ 0 := by omega
      exact d2 (Int.eq_of_mul_eq_mul_left z2 hs).symm
    have eq1 : (p.1 - q.1) * e.1 = q.1 * (e.2 - e.1) + (q.2 - p.2) := by
      rw [Int.sub_mul, Int.mul_sub]
      omega
    have l1 := abs_mul_le q1 d1
    have l2 : (q.1 * (e.2 - e.1) + (q.2 - p.2)).natAbs ≤ A * (R + 2 * A) + 2 * D := abs_add_le' l1 (by clear l1 eq1 hs m no; omega)
    have l3 := abs_le_mul eq1 pq l2
    clear l1 l2 eq1 hs m no
    generalize A * (R + 2 * A) = Z at l3 ⊢
    omega
  · have s1p : 0 < s.1 := by omega
    have e1 : e.1.natAbs ≤ R + A := by omega
    have qn : q.1 ≠ 0 := fun z => by
      rw [z, Int.zero_mul] at hs
      rcases Int.mul_eq_zero.mp hs with h | h
      · omega
      · omega
    have eq1 : q.1 * e.2 = p.1 * e.1 + (p.2 - q.2) := by omega
    have l1 := abs_mul_le p1 (show e.1.natAbs ≤ R + 2 * A by omega)
    have l2 : (p.1 * e.1 + (p.2 - q.2)).natAbs ≤ A * (R + 2 * A) + 2 * D := abs_add_le' l1 (by clear l1 eq1 hs m no; omega)
    have l3 := abs_le_mul eq1 qn l2
    clear l1 l2 eq1 hs m no
    generalize A * (R + 2 * A) = Z at l3 ⊢
    omega
/-- the step of the row -/
theorem nth_step {p q : Pr} {b : Bd} {A : Nat} (nz : p.1 ≠ 0 ∨ q.1 ≠ 0) (p1 : p.1.natAbs ≤ A) (q1 : q.1.natAbs ≤ A) : ∃ s : Pr, p.1 * s.1 = q.1 * s.2 ∧ (0 < s.2 ∨ s.2 = 0 ∧ 0 < s.1) ∧ s.1.natAbs ≤ A ∧ s.2.natAbs ≤ A ∧
    ∀ n e x, (told p q b).nth n = some e → (told p q b).nth (n + 1) = some x → x = (e.1 + s.1, e.2 + s.2) := by
  cases hl : lineOf p q with
  | none =>
    have z : (told p q b).nth = fun _ => none := by
      unfold told
      rw [hl]
      rfl
    by_cases c : q.1 = 0
    · have pn : p.1 ≠ 0 := by omega
      by_cases d : 0 < p.1
      · exact ⟨(0, p.1), by show p.1 * 0 = q.1 * p.1; rw [c, Int.mul_zero, Int.zero_mul], .inl d, by show (0 : Int).natAbs ≤ A; simp, p1, fun n e x h _ => by rw [z] at h; cases h⟩
      · exact ⟨(0, -p.1), by show p.1 * 0 = q.1 * -p.1; rw [c, Int.mul_zero, Int.zero_mul], .inl (by show 0 < -p.1; omega), by show (0 : Int).natAbs ≤ A; simp, by show (-p.1).natAbs ≤ A; omega, fun n e x h _ => by rw [z] at h; cases h⟩
    · by_cases d : 0 < p.1 ∨ p.1 = 0 ∧ 0 < q.1
      · exact ⟨(q.1, p.1), Int.mul_comm _ _, d, q1, p1, fun n e x h _ => by rw [z] at h; cases h⟩
      · exact ⟨(-q.1, -p.1), by show p.1 * -q.1 = q.1 * -p.1; rw [Int.mul_neg, Int.mul_neg, Int.mul_comm], by show 0 < -p.1 ∨ -p.1 = 0 ∧ 0 < -q.1; omega, by show (-q.1).natAbs ≤ A; omega, by show (-p.1).natAbs ≤ A; omega, fun n e x h _ => by rw [z] at h; cases h⟩
  | some l =>
    obtain ⟨on, sn⟩ := line_some nz hl
    have m0 : p.1 * l.base.1 + p.2 = q.1 * l.base.2 + q.2 := by
      have z := (on l.base).mpr ⟨0, by unfold after; simp⟩
      exact z
    have m1 : p.1 * (l.base.1 + l.step.1) + p.2 = q.1 * (l.base.2 + l.step.2) + q.2 := by
      have z := (on (after l.base l.step 1)).mpr ⟨1, rfl⟩
      unfold after at z
      rw [Int.mul_one, Int.mul_one] at z
      exact z
    have par : p.1 * l.step.1 = q.1 * l.step.2 := by
      rw [Int.mul_add, Int.mul_add] at m1
      omega
    have st := line_step hl
    have a1 : l.step.1.natAbs ≤ A := by
      rw [st]
      exact Nat.le_trans (Int.natAbs_ediv_le_natAbs _ _) q1
    have a2 : l.step.2.natAbs ≤ A := by
      rw [st]
      exact Nat.le_trans (Int.natAbs_ediv_le_natAbs _ _) p1
    have both : ∀ n e x (r : Row), rowAt l r n = some e → rowAt l r (n + 1) = some x → x = (e.1 + r.st.1, e.2 + r.st.2) := fun n e x r h g => by
      unfold rowAt at h g
      split at h
      · split at g
        · cases h
          cases g
          refine Prod.ext ?_ ?_
          · show l.base.1 + r.st.1 * (r.lo + ((n + 1 : Nat) : Int)) = l.base.1 + r.st.1 * (r.lo + (n : Int)) + r.st.1
            rw [show r.lo + ((n + 1 : Nat) : Int) = r.lo + (n : Int) + 1 by omega, Int.mul_add, Int.mul_one, Int.add_assoc]
          · show l.base.2 + r.st.2 * (r.lo + ((n + 1 : Nat) : Int)) = l.base.2 + r.st.2 * (r.lo + (n : Int)) + r.st.2
            rw [show r.lo + ((n + 1 : Nat) : Int) = r.lo + (n : Int) + 1 by omega, Int.mul_add, Int.mul_one, Int.add_assoc]
        · cases g
      · cases h
    by_cases c : up l.step.2 l.step.1 = true
    · have u : 0 < l.step.2 ∨ l.step.2 = 0 ∧ 0 < l.step.1 := by
        unfold up at c
        split at c
        · rename_i z
          exact .inr ⟨z, of_decide_eq_true c⟩
        · exact .inl (of_decide_eq_true c)
      refine ⟨l.step, par, u, a1, a2, fun n e x h g => ?_⟩
      unfold told at h g
      rw [hl] at h g
      cases hs : spanOf (limits l b) with
      | none =>
        simp only [hs] at h
        cases h
      | some s =>
        simp only [hs] at h g
        have z := both n e x _ h g
        unfold rowOf at z
        rw [if_pos c] at z
        exact z
    · have u : 0 < -l.step.2 ∨ -l.step.2 = 0 ∧ 0 < -l.step.1 := by
        unfold up at c
        split at c
        · rename_i z
          have w : ¬ 0 < l.step.1 := fun w => c (decide_eq_true w)
          omega
        · have w : ¬ 0 < l.step.2 := fun w => c (decide_eq_true w)
          omega
      refine ⟨(-l.step.1, -l.step.2), by show p.1 * -l.step.1 = q.1 * -l.step.2; rw [Int.mul_neg, Int.mul_neg, par], u, by show (-l.step.1).natAbs ≤ A; omega, by show (-l.step.2).natAbs ≤ A; omega, fun n e x h g => ?_⟩
      unfold told at h g
      rw [hl] at h g
      cases hs : spanOf (limits l b) with
      | none =>
        simp only [hs] at h
        cases h
      | some s =>
        simp only [hs] at h g
        have z := both n e x _ h g
        unfold rowOf at z
        rw [if_neg c] at z
        exact z
/-- the first two pairs -/
theorem first_sz {p q : Pr} {b : Bd} {A D R : Nat} (nz : p.1 ≠ 0 ∨ q.1 ≠ 0) (p1 : p.1.natAbs ≤ A) (q1 : q.1.natAbs ≤ A) (p2 : p.2.natAbs ≤ D) (q2 : q.2.natAbs ≤ D) (b1 : b.low.natAbs ≤ R) (b2 : ∀ h, b.high = some h → h.natAbs ≤ R) (b3 : b.first.natAbs ≤ R) :
    ∀ n e, n < 2 → (told p q b).nth n = some e → e.1.natAbs ≤ A * (R + 2 * A) + 2 * D + (R + 3 * A) ∧ e.2.natAbs ≤ A * (R + 2 * A) + 2 * D + (R + 3 * A) := by
  obtain ⟨s, hs, hu, s1, s2, next⟩ := nth_step (b := b) nz p1 q1
  have sp := told_spec b nz
  have first : ∀ e, (told p q b).nth 0 = some e → e.1.natAbs ≤ A * (R + 2 * A) + 2 * D + (R + 2 * A) ∧ e.2.natAbs ≤ A * (R + 2 * A) + 2 * D + (R + 2 * A) := fun e he => by
    have g := sp.each.good 0 e he
    have m : p.1 * e.1 + p.2 = q.1 * e.2 + q.2 := g.1
    refine tight nz g.1 g.2 hs (fun kk => ?_) (by omega) p1 q1 p2 q2 s1 s2 b1 b2 b3
    have gx : Good p q b (e.1 - s.1, e.2 - s.2) := ⟨by
      show p.1 * (e.1 - s.1) + p.2 = q.1 * (e.2 - s.2) + q.2
      rw [Int.mul_sub, Int.mul_sub]
      omega, kk⟩
    obtain ⟨n, hn⟩ := sp.each.all _ gx
    have lx : Lx (kEach (e.1 - s.1, e.2 - s.2)) (kEach e) := by
      show e.2 - s.2 < e.2 ∨ e.2 - s.2 = e.2 ∧ e.1 - s.1 < e.1
      omega
    by_cases c : n = 0
    · subst c
      rw [he] at hn
      rw [← Option.some.inj hn] at lx
      exact Lx_no _ lx
    · exact Lx_as lx (sp.each.lt 0 n _ _ (by omega) he hn)
  intro n e hn he
  by_cases c : n = 0
  · subst c
    have := first e he
    omega
  · have n1 : n = 1 := by omega
    subst n1
    cases h0 : (told p q b).nth 0 with
    | none =>
      have z := sp.each.down 0 h0
      rw [he] at z
      cases z
    | some x =>
      have f := first x h0
      have z := next 0 x e h0 he
      rw [z]
      show (x.1 + s.1).natAbs ≤ _ ∧ (x.2 + s.2).natAbs ≤ _
      omega
end Met
namespace K14
open PySem L2
open L2.My
open Met
def TT (H H' : Hp) : Prop := ∀ b xs, H b = some (.tup xs) → H' b = some (.tup xs)
theorem TT.of {H H' : Hp} (s : Same H H') : TT H H' := fun b xs e => s _ _ e
theorem TT.trans {H H1 H2 : Hp} (a : TT H H1) (b : TT H1 H2) : TT H H2 := fun x xs e => b _ _ (a _ _ e)
/-- all but the dice is kept -/
structure Kd (d : Addr) (H H' : Hp) : Prop where
  dice : Dice H' d
  but : ∀ b o, b ≠ d → H b = some o → H' b = some o
theorem Dice.same {H H' : Hp} {d : Addr} (h : Dice H d) (s : Same H H') : Dice H' d := by
  obtain ⟨a, b, c, e, r⟩ := h
  exact ⟨a, b, c, s _ _ e, r⟩
theorem Kd.of {d : Addr} {H H' : Hp} (h : Dice H d) (s : Same H H') : Kd d H H' := ⟨Dice.same h s, fun b o _ e => s _ _ e⟩
theorem Kd.ob {d : Addr} {H H' : Hp} (h : Dice H' d) (u : But d H H') : Kd d H H' := ⟨h, fun b o n e => (u b n).trans e⟩
theorem Kd.trans {d : Addr} {H H1 H2 : Hp} (a : Kd d H H1) (b : Kd d H1 H2) : Kd d H H2 := ⟨b.dice, fun x o n e => b.but _ _ n (a.but _ _ n e)⟩
theorem Kd.tt {d : Addr} {H H' : Hp} (k : Kd d H H') (h : Dice H d) : TT H H' := by
  intro b xs e
  refine k.but _ _ ?_ e
  rintro rfl
  obtain ⟨_, _, _, z, _⟩ := h
  rw [z] at e
  cases e
theorem PairAt.tt {H H' : Hp} {a : Addr} {e : Pr} (h : PairAt H a e) (s : TT H H') : PairAt H' a e := s _ _ h
theorem BdAt.tt {H H' : Hp} {a : Addr} {b : Bd} (h : BdAt H a b) (s : TT H H') : BdAt H' a b := s _ _ h
theorem PPAt.tt {H H' : Hp} {t : Addr} {p : PP} (h : PPAt H t p) (s : TT H H') : PPAt H' t p := by
  cases p <;> exact s _ _ h
theorem LineAt.tt {H H' : Hp} {t : Addr} {l : Line} (h : LineAt H t l) (s : TT H H') : LineAt H' t l := by
  obtain ⟨a, b, e, x, y⟩ := h
  exact ⟨a, b, s _ _ e, x.tt s, y.tt s⟩
theorem OLine.tt {H H' : Hp} {o : Option Line} {v : V} (h : OLine H o v) (s : TT H H') : OLine H' o v := by
  cases o with
  | none => exact h
  | some l =>
    obtain ⟨t, e, x⟩ := h
    exact ⟨t, e, x.tt s⟩
theorem OSpan.tt {H H' : Hp} {o : Option Span} {v : V} (h : OSpan H o v) (s : TT H H') : OSpan H' o v := by
  cases o with
  | none => exact h
  | some l =>
    obtain ⟨t, e, x⟩ := h
    exact ⟨t, e, s _ _ x⟩
theorem OPair.tt {H H' : Hp} {o : Option Pr} {v : V} (h : OPair H o v) (s : TT H H') : OPair H' o v := by
  cases o with
  | none => exact h
  | some l =>
    obtain ⟨t, e, x⟩ := h
    exact ⟨t, e, s _ _ x⟩
theorem MetOf.tt {H H' : Hp} {p q : Pr} {b : Bd} {ta ba : Addr} {vl vn vs vt vr : V} {t : Addr} (m : MetOf H p q b ta ba vl vn vs vt vr t) (s : TT H H') : MetOf H' p q b ta ba vl vn vs vt vr t := by
  obtain ⟨⟨pa, qa, e, e1, e2⟩, h1, h2, h3, h4, h5, h6, h7⟩ := m
  exact ⟨⟨pa, qa, s _ _ e, e1.tt s, e2.tt s⟩, h1.tt s, h2.tt s, h3.tt s, h4.tt s, h5.tt s, h6.tt s, h7.tt s⟩
theorem MetAt.kd {C x d : Addr} {H H' : Hp} {p q : Pr} {b : Bd} (m : MetAt C H x p q b) (k : Kd d H H') (h : Dice H d) : MetAt C H' x p q b := by
  obtain ⟨dx, ta, ba, vl, vn, vs, vt, vr, t, e, o⟩ := m
  refine ⟨dx, ta, ba, vl, vn, vs, vt, vr, t, k.but _ _ ?_ e, o.tt (k.tt h)⟩
  rintro rfl
  obtain ⟨_, _, _, z, _⟩ := h
  rw [z] at e
  cases e
theorem B.small {n : Nat} {i : Int} (h : i.natAbs < 1024) (l : 10 ≤ n := by omega) : B n i := B.up (n := 10) h l
theorem B.draw {i : Int} (h0 : -(10 ^ 18) < i) (h1 : i < 10 ^ 18) : B 60 i := by
  have e1 : (10 : Int) ^ 18 = 1000000000000000000 := by decide
  have e2 : (2 : Nat) ^ 60 = 1152921504606846976 := by decide
  rw [e1] at h0 h1
  unfold B
  rw [e2]
  omega
section
variable {P : Program} {w : World} {K : PySem.W.Frag} {mg : Str → Option Value} {base : Heap}
theorem slCount : FnScope ["_law_value"] ["_law_value"] (defScope lCount) := ⟨rfl, rfl, rfl, by decide +kernel, rfl, by decide +kernel, by decide +kernel⟩
theorem lok_count {f : Addr} {fd : FuncData} (F : Fun K "_law_is_count" "_law_is_count" lCount f fd) (T : Txt K mg) : FnOk P w K mg base CX0 1 f fd ["_law_value"] (spWhole K) := by
  refine F.ok slCount (fun vs H Q E h => ?_) (fun cdv A outer s H vs Q E hr h => ?_)
  · obtain ⟨x, o, rfl, _⟩ := h
    rfl
  · obtain ⟨x, o, rfl, it, k⟩ := h
    refine ⟨_, pss_one (ps_ret (pe_and (pe_callB call_isi (by rfl) T.isi (by decide +kernel) (pa_cons (pv 0) (pa_cons (pe_bltn (v := .ty "int") (by rfl) T.int (by decide +kernel) rfl) pa_nil)))
      (pe_one (pe_not (pe_callB call_isi (by rfl) T.isi (by decide +kernel) (pa_cons (pv 0) (pa_cons (pe_bltn (v := .ty "bool") (by rfl) T.bool (by decide +kernel) rfl) pa_nil))))))), ?_⟩
    cases it with
    | int i =>
      refine ⟨_, rfl, _, _, _, _, _, rfl, ClsV.ty _, .base (.int i), kit_ty (r := true) (by decide +kernel), _, rfl, iteT ?_⟩
      exact ⟨_, rfl, _, _, _, _, _, rfl, ClsV.ty _, .base (.int i), kit_ty (r := false) (by decide +kernel), _, rfl, k⟩
    | @other _ n t m =>
      simp only [List.mem_cons, List.not_mem_nil, or_false] at m
      rcases m with rfl | rfl | rfl | rfl | rfl | rfl
      case inr.inl =>
        refine ⟨_, rfl, _, _, _, _, _, rfl, ClsV.ty _, t, kit_ty (r := true) (by decide +kernel), _, rfl, iteT ?_⟩
        exact ⟨_, rfl, _, _, _, _, _, rfl, ClsV.ty _, t, kit_ty (r := true) (by decide +kernel), _, rfl, k⟩
      all_goals
        exact ⟨_, rfl, _, _, _, _, _, rfl, ClsV.ty _, t, kit_ty (r := false) (by decide +kernel), _, rfl, iteF k⟩
/-! ### _law_steps -/
def spSteps : Sp := fun vs H Q _ => ∃ d, vs = [.ref d] ∧ Dice H d ∧ ∀ t H' e, Kd d H H' → PairAt H' t e → (e.1 ≠ 0 ∨ e.2 ≠ 0) → B 64 e.1 → B 64 e.2 → Q (.ref t) H'
theorem slSteps : FnScope ["_law_dice_here", "_law_one_here", "_law_other"] ["_law_dice_here"] (defScope lSteps) := ⟨rfl, rfl, rfl, by decide +kernel, rfl, by decide +kernel, by decide +kernel⟩
theorem lok_steps {f fN fW : Addr} {fd fdN fdW : FuncData} (F : Fun K "_law_steps" "_law_steps" lSteps f fd) (dN : Dn P w K mg base CX0 "_law_next" ["_law_dice_here", "_law_many"] 1 spNext fN fdN) (dW : Dn P w K mg base CX0 "_law_whole" ["_law_dice_here"] 3 spDraw fW fdW) :
    FnOk P w K mg base CX0 4 f fd ["_law_dice_here"] spSteps := by
  refine F.ok slSteps (fun vs H Q E h => ?_) (fun cdv A outer s H vs Q E hr h => ?_)
  · obtain ⟨d, rfl, _⟩ := h
    rfl
  · obtain ⟨d, rfl, D, k⟩ := h
    have hr1 : Room 1 _ := hr.mono (by decide)
    refine ⟨_, pss_cons (ps_par (i := 1) (j := 2) rfl slSteps.nd rfl rfl (by decide) rfl rfl (pa_cons (pe_call dW.G hr rfl dW.g dW.kp dW.b .nil pass0 (pa_cons (pv 0) pa_nil)) (pa_cons (pe_call dW.G hr rfl dW.g dW.kp dW.b .nil pass0 (pa_cons (pv 0) pa_nil)) pa_nil)) (by rfl))
      (pss_cons (ps_if (pt_cmpR op_eq (pe_call dN.G hr1 rfl dN.g dN.kp dN.b .nil pass0 (pa_cons (pv 0) (pa_cons pe_int pa_nil))) pe_int (nomark _)) (pss_one (ps_set (i := 2) slSteps.nd rfl (.inl rfl) (pv 1))) pss_nil)
      (pss_one (ps_ret (pe_ifExp (PW.pt (pw_and (pt_cmpR op_eq (pv 1) pe_int (nomark _)) (pw_and1 (pt_cmpR op_eq (pv 2) pe_int (nomark _))))) (pe_tup (pa_cons pe_int (pa_cons pe_int pa_nil))) (pe_tup (pa_cons (pv 1) (pa_cons (pv 2) pa_nil))))))), ?_⟩
    refine ⟨_, rfl, d, rfl, D, fun a H1 a0 a1 D1 u1 => ?_⟩
    refine ⟨_, rfl, d, rfl, D1, fun b H2 b0 b1 D2 u2 => ⟨_, _, rfl, ?_⟩⟩
    refine ⟨_, rfl, d, 6, rfl, by decide, by decide, D2, fun r H3 r0 r1 D3 u3 => ⟨rfl, _, rfl, ?_⟩⟩
    have kd : Kd d H H3 := (Kd.ob D1 u1).trans ((Kd.ob D2 u2).trans (Kd.ob D3 u3))
    have ba := B.draw a0 a1
    have bb := B.draw b0 b1
    have fin : ∀ c : Int, B 60 c → tIf (tAnd (tTest (tOp rEq (tVar 1) (tC (.int 0)))) (tTest (tOp rEq (tVar 2) (tC (.int 0))))) (tTup (tCons (tC (.int 1)) (tCons (tC (.int 0)) tNil))) (tTup (tCons (tVar 1) (tCons (tVar 2) tNil)))
        [some (.ref d), some (.int a), some (.int c)] H3 Q := by
      intro c bc
      refine ⟨_, rfl, rfl, _, rfl, ?_⟩
      by_cases c1 : a = 0
      · refine iteTe (by simp [c1]) ⟨_, rfl, rfl, _, rfl, ?_⟩
        by_cases c2 : c = 0
        · exact iteTe (by simp [c2]) ⟨n_line, fun t nt => k t _ (1, 0) (kd.trans (.of D3 (grow nt))) upd_same (.inl (by decide)) .one (B.small (by decide))⟩
        · exact iteFe (by simp [c2]) ⟨_, rfl, _, rfl, n_line, fun t nt => k t _ (a, c) (kd.trans (.of D3 (grow nt))) upd_same (.inr c2) ba.up bc.up⟩
      · exact iteFe (by simp [c1]) (iteF ⟨_, rfl, _, rfl, n_line, fun t nt => k t _ (a, c) (kd.trans (.of D3 (grow nt))) upd_same (.inl c1) ba.up bc.up⟩)
    refine ite2 (fun _ => ?_) (fun _ => ?_)
    · exact ⟨_, rfl, fin a ba⟩
    · exact fin b bb
end
/-- bounds of a middle size -/
structure BM (b : Bd) : Prop where
  bb : BB 64 b
  l0 : 0 ≤ b.low
  f0 : 0 ≤ b.first
  r0 : ∀ r, b.rounds = some r → 0 ≤ r
theorem BM.ok {b : Bd} (h : BM b) : BOk b := ⟨h.bb.up, h.l0, h.f0, h.r0⟩
theorem BM.mk' {low first : Int} {high rounds : Option Int} (l0 : 0 ≤ low) (l1 : low < 100) (f0 : 0 ≤ first) (f1 : first < 100) (hh : ∀ h, high = some h → -100 < h ∧ h < 100) (hr : ∀ r, rounds = some r → 0 ≤ r ∧ r < 100) : BM ⟨low, high, first, rounds⟩ :=
  ⟨⟨B.small (by show low.natAbs < 1024; omega), fun h e => B.small (by have := hh h e; omega), B.small (by show first.natAbs < 1024; omega), fun r e => B.small (by have := hr r e; omega)⟩, l0, f0, fun r e => (hr r e).1⟩
section
variable {P : Program} {w : World} {K : PySem.W.Frag} {mg : Str → Option Value} {base : Heap}
/-! ### _law_bounds -/
def spBounds : Sp := fun vs H Q _ => ∃ d, vs = [.ref d, .int 9] ∧ Dice H d ∧ ∀ t H' b, Kd d H H' → BdAt H' t b → BM b → Q (.ref t) H'
theorem slBounds : FnScope ["_law_dice_here", "_law_most", "_law_low", "_law_high", "_law_first"] ["_law_dice_here", "_law_most"] (defScope lBounds) := ⟨rfl, rfl, rfl, by decide +kernel, rfl, by decide +kernel, by decide +kernel⟩
theorem lok_bounds {f fN : Addr} {fd fdN : FuncData} (F : Fun K "_law_bounds" "_law_bounds" lBounds f fd) (dN : Dn P w K mg base CX0 "_law_next" ["_law_dice_here", "_law_many"] 1 spNext fN fdN) : FnOk P w K mg base CX0 2 f fd ["_law_dice_here", "_law_most"] spBounds := by
  refine F.ok slBounds (fun vs H Q E h => ?_) (fun cdv A outer s H vs Q E hr h => ?_)
  · obtain ⟨d, rfl, _⟩ := h
    rfl
  · obtain ⟨d, rfl, D, k⟩ := h
    refine ⟨_, pss_cons (ps_set (i := 2) slBounds.nd rfl (.inl rfl) (pe_call dN.G hr rfl dN.g dN.kp dN.b .nil pass0 (pa_cons (pv 0) (pa_cons (pv 1) pa_nil))))
      (pss_cons (ps_set (i := 3) slBounds.nd rfl (.inl rfl) (pe_ifExp (pt_cmpR op_eq (pe_call dN.G hr rfl dN.g dN.kp dN.b .nil pass0 (pa_cons (pv 0) (pa_cons pe_int pa_nil))) pe_int (nomark _)) (pe_op op_add (pe_op op_sub (pv 2) pe_int) (pe_call dN.G hr rfl dN.g dN.kp dN.b .nil pass0 (pa_cons (pv 0) (pa_cons (pv 1) pa_nil)))) pe_non))
      (pss_cons (ps_set (i := 4) slBounds.nd rfl (.inl rfl) (pe_ifExp (pt_cmpR op_eq (pe_call dN.G hr rfl dN.g dN.kp dN.b .nil pass0 (pa_cons (pv 0) (pa_cons pe_int pa_nil))) pe_int (nomark _)) (pe_call dN.G hr rfl dN.g dN.kp dN.b .nil pass0 (pa_cons (pv 0) (pa_cons (pv 1) pa_nil))) pe_int))
      (pss_one (ps_ret (pe_tup (pa_cons (pv 2) (pa_cons (pv 3) (pa_cons (pv 4) (pa_cons (pe_ifExp (pt_cmpR op_eq (pe_call dN.G hr rfl dN.g dN.kp dN.b .nil pass0 (pa_cons (pv 0) (pa_cons pe_int pa_nil))) pe_int (nomark _))
        (pe_call dN.G hr rfl dN.g dN.kp dN.b .nil pass0 (pa_cons (pv 0) (pa_cons (pe_op op_mul pe_int (pv 1)) pa_nil))) pe_non) pa_nil))))))))), ?_⟩
    refine ⟨_, rfl, _, rfl, d, 9, rfl, by decide, by decide, D, fun low H1 l0 l1 D1 u1 => ?_⟩
    have k1 := Kd.ob D1 u1
    -- the rounds
    have s3 : ∀ (high : Option Int) (first : Int) (H3 : Hp), Kd d H H3 → (∀ h, high = some h → -100 < h ∧ h < 100) → 0 ≤ first → first < 100 →
        tRet (tTup (tCons (tVar 2) (tCons (tVar 3) (tCons (tVar 4) (tCons (tIf (tTest (tOp rEq (tCall spNext [] E0 (tCons (tVar 0) (tCons (tC (.int 2)) tNil))) (tC (.int 1)))) (tCall spNext [] E0 (tCons (tVar 0) (tCons (tOp (rI CMul fun i j => .int (i * j)) (tC (.int 3)) (tVar 1)) tNil))) (tC .non)) tNil)))))
          { nx := fun _ H' => Q .non H', rt := Q } [some (.ref d), some (.int 9), some (.int low), some (oV high), some (.int first)] H3 := by
      intro high first H3 k3 hh f0 f1
      refine ⟨_, rfl, _, rfl, _, rfl, _, rfl, d, 2, rfl, by decide, by decide, k3.dice, fun r H4 r0 r1 D4 u4 => ⟨rfl, _, rfl, ite2 (fun _ => ?_) (fun _ => ?_)⟩⟩
      · refine ⟨_, rfl, _, rfl, _, _, rfl, rfl, .inl ⟨by decide, by decide⟩, d, 27, rfl, by decide, by decide, D4, fun r2 H5 r3 r4 D5 u5 => ⟨n_line, fun t nt => ?_⟩⟩
        exact k t _ ⟨low, high, first, some r2⟩ (k3.trans ((Kd.ob D4 u4).trans ((Kd.ob D5 u5).trans (.of D5 (grow nt))))) upd_same (.mk' l0 (by omega) f0 f1 hh (fun r e => by cases e; omega))
      · refine ⟨n_line, fun t nt => ?_⟩
        exact k t _ ⟨low, high, first, none⟩ (k3.trans ((Kd.ob D4 u4).trans (.of D4 (grow nt)))) upd_same (.mk' l0 (by omega) f0 f1 hh (fun r e => by cases e))
    -- the first round
    have s2 : ∀ (high : Option Int) (H3 : Hp), Kd d H H3 → (∀ h, high = some h → -100 < h ∧ h < 100) →
        tSeq (tAsg (tIf (tTest (tOp rEq (tCall spNext [] E0 (tCons (tVar 0) (tCons (tC (.int 2)) tNil))) (tC (.int 1)))) (tCall spNext [] E0 (tCons (tVar 0) (tCons (tVar 1) tNil))) (tC (.int 0))) (gName 4))
          (tRet (tTup (tCons (tVar 2) (tCons (tVar 3) (tCons (tVar 4) (tCons (tIf (tTest (tOp rEq (tCall spNext [] E0 (tCons (tVar 0) (tCons (tC (.int 2)) tNil))) (tC (.int 1)))) (tCall spNext [] E0 (tCons (tVar 0) (tCons (tOp (rI CMul fun i j => .int (i * j)) (tC (.int 3)) (tVar 1)) tNil))) (tC .non)) tNil))))))
          { nx := fun _ H' => Q .non H', rt := Q } [some (.ref d), some (.int 9), some (.int low), some (oV high), none] H3 := by
      intro high H3 k3 hh
      refine ⟨_, rfl, d, 2, rfl, by decide, by decide, k3.dice, fun r H4 r0 r1 D4 u4 => ⟨rfl, _, rfl, ite2 (fun _ => ?_) (fun _ => ?_)⟩⟩
      · refine ⟨_, rfl, _, rfl, d, 9, rfl, by decide, by decide, D4, fun f H5 f0 f1 D5 u5 => ?_⟩
        exact s3 high f H5 (k3.trans ((Kd.ob D4 u4).trans (Kd.ob D5 u5))) hh f0 (by omega)
      · exact s3 high 0 H4 (k3.trans (Kd.ob D4 u4)) hh (by decide) (by decide)
    refine ⟨_, rfl, d, 2, rfl, by decide, by decide, D1, fun r H4 r0 r1 D4 u4 => ⟨rfl, _, rfl, ite2 (fun _ => ?_) (fun _ => ?_)⟩⟩
    · refine ⟨_, rfl, _, _, rfl, rfl, _, rfl, _, rfl, d, 9, rfl, by decide, by decide, D4, fun f H5 f0 f1 D5 u5 => ⟨_, _, rfl, rfl, ?_⟩⟩
      exact s2 (some (low - 2 + f)) H5 (k1.trans ((Kd.ob D4 u4).trans (Kd.ob D5 u5))) (fun h e => by cases e; omega)
    · exact s2 none H4 (k1.trans (Kd.ob D4 u4)) (fun h e => by cases e)
/-! ### _law_made -/
abbrev pInit : List Str := ["self", "place", "other", "low", "high", "first", "rounds"]
def gV1 (vs zs : List V) : List V := vs ++ (zs ++ [.non, .int 0, .non])
def gV2 (vs zs : List V) : List V := vs ++ (match zs with | [f, l] => [l, .non, f, .non] | _ => [])
def gV3 (vs zs : List V) : List V := vs ++ zs
/-- how the class is called -/
structure CallM (K : PySem.W.Frag) (fd : FuncData) : Prop where
  c0 : ∃ ds, Vals [.int 0, .non, .int 0, .non] ds ∧ Binds K fd pInit ds
  c1 : ∃ g, KBn K fd pInit 3 ["low"] g gV1
  c2 : ∃ g, KBn K fd pInit 3 ["first", "low"] g gV2
  c3 : ∃ g, KBn K fd pInit 3 ["low", "high", "first", "rounds"] g gV3
def spMade (C : Addr) : Sp := fun vs H Q _ => ∃ a b d p q bd, vs = [.ref a, .ref b, .ref d] ∧ PairAt H a p ∧ PairAt H b q ∧ BdAt H d bd ∧ PSz p q ∧ BOk bd ∧ ∀ x H', Same H H' → MetAt C H' x p q bd → Q (.ref x) H'
theorem slMade : FnScope ["_law_place", "_law_other", "_law_bounds_here", "_law_low", "_law_high", "_law_first", "_law_rounds"] ["_law_place", "_law_other", "_law_bounds_here"] (defScope lMade) := ⟨rfl, rfl, rfl, by decide +kernel, rfl, by decide +kernel, by decide +kernel⟩
theorem lok_made {f fI C : Addr} {fd fdI : FuncData} (F : Fun K "_law_made" "_law_made" lMade f fd) (gC : mg "Meetings" = some (.ref C)) (M : Mk K C fI) (GI : FnOk P w K mg base CX0 5 fI fdI pInit (spInit C)) (cm : CallM K fdI) :
    FnOk P w K mg base CX0 7 f fd ["_law_place", "_law_other", "_law_bounds_here"] (spMade C) := by
  refine F.ok slMade (fun vs H Q E h => ?_) (fun cdv A outer s H vs Q E hr h => ?_)
  · obtain ⟨a, b, d, p, q, bd, rfl, _⟩ := h
    rfl
  · obtain ⟨a, b, d, p, q, bd, rfl, ep, eq, eb, ps, bo, k⟩ := h
    obtain ⟨ds, v0, b0⟩ := cm.c0
    obtain ⟨g1, kb1⟩ := cm.c1
    obtain ⟨g2, kb2⟩ := cm.c2
    obtain ⟨g3, kb3⟩ := cm.c3
    refine ⟨_, pss_cons (ps_asg (pv 2) (pg_tup rfl (pgs_cons (pg_name (i := 3) slMade.nd rfl (.inl rfl)) (pgs_cons (pg_name (i := 4) slMade.nd rfl (.inl rfl)) (pgs_cons (pg_name (i := 5) slMade.nd rfl (.inl rfl)) (pgs_cons (pg_name (i := 6) slMade.nd rfl (.inl rfl)) pgs_nil))))))
      (pss_cons (ps_if (PW.pt (pw_and (pt_cmpR op_isN (pv 4) pe_non (nomark _)) (pw_and (pt_cmpR op_isN (pv 6) pe_non (nomark _)) (pw_and1 (pt_cmpR op_eq (pv 5) pe_int (nomark _))))))
        (pss_one (ps_ret (pe_ifExp (pt_cmpR op_eq (pv 3) pe_int (nomark _)) (pe_make M GI hr rfl gC b0 v0 pass0 (pa_cons (pv 0) (pa_cons (pv 1) pa_nil))) (pe_makeK (n := 2) M GI hr rfl gC kb1 pass0 (pa_cons (pv 0) (pa_cons (pv 1) pa_nil)) (pk_cons (pv 3) pk_nil))))) pss_nil)
      (pss_cons (ps_if (PW.pt (pw_and (pt_cmpR op_isN (pv 4) pe_non (nomark _)) (pw_and1 (pt_cmpR op_isN (pv 6) pe_non (nomark _)))))
        (pss_one (ps_ret (pe_makeK (n := 2) M GI hr rfl gC kb2 pass0 (pa_cons (pv 0) (pa_cons (pv 1) pa_nil)) (pk_cons (pv 5) (pk_cons (pv 3) pk_nil))))) pss_nil)
      (pss_one (ps_ret (pe_makeK (n := 2) M GI hr rfl gC kb3 pass0 (pa_cons (pv 0) (pa_cons (pv 1) pa_nil)) (pk_cons (pv 3) (pk_cons (pv 4) (pk_cons (pv 5) (pk_cons (pv 6) pk_nil))))))))), ?_⟩
    obtain ⟨low, high, first, rounds⟩ := bd
    have mk : ∀ x dx, H x = none → H dx = none → dx ≠ x → spInit C [.ref x, .ref a, .ref b, .int low, oV high, .int first, oV rounds] (upd (upd H dx (.own x)) x (.ins C dx [])) (fun v H3 => v = .non ∧ Q (.ref x) H3) E0 := by
      intro x dx nx ndx ne
      have s0 : Same H (upd (upd H dx (.own x)) x (.ins C dx [])) := fun y o e => by
        rw [upd_ne (ne_of_none e nx), upd_ne (ne_of_none e ndx)]
        exact e
      exact ⟨H, x, dx, a, b, p, q, ⟨low, high, first, rounds⟩, rfl, s0, nx, upd_same, ep.same s0, eq.same s0, ps, bo, fun H' s' m => ⟨rfl, k x H' s' m⟩⟩
    refine ⟨_, rfl, d, _, rfl, SqT.of eb, rfl, _, _, rfl, _, _, rfl, _, _, rfl, _, _, rfl, rfl, ?_⟩
    have third : tRet (tMakeK C 2 4 (spInit C) gV3 E0 (tCons (tVar 0) (tCons (tVar 1) tNil)) (tCons (tVar 3) (tCons (tVar 4) (tCons (tVar 5) (tCons (tVar 6) tNil)))))
        { nx := fun _ H' => Q .non H', rt := Q } [some (.ref a), some (.ref b), some (.ref d), some (.int low), some (oV high), some (.int first), some (oV rounds)] H :=
      ⟨_, rfl, _, rfl, _, rfl, _, rfl, _, rfl, _, rfl, rfl, rfl, mk⟩
    cases high with
    | some h => exact ⟨_, rfl, rfl, _, rfl, iteF (iteF ⟨_, rfl, rfl, _, rfl, iteF (iteF third)⟩)⟩
    | none =>
      cases rounds with
      | some r => exact ⟨_, rfl, rfl, _, rfl, iteT ⟨_, rfl, rfl, _, rfl, iteF (iteF ⟨_, rfl, rfl, _, rfl, iteT ⟨_, rfl, rfl, _, rfl, iteF third⟩⟩)⟩⟩
      | none =>
        refine ⟨_, rfl, rfl, _, rfl, iteT ⟨_, rfl, rfl, _, rfl, iteT ⟨_, rfl, rfl, _, rfl, ?_⟩⟩⟩
        by_cases cf : first = 0
        · subst cf
          refine iteTe (by simp) ⟨_, rfl, rfl, _, rfl, ?_⟩
          by_cases cl : low = 0
          · subst cl
            exact iteTe (by simp) ⟨_, rfl, _, rfl, mk⟩
          · exact iteFe (by simp [cl]) ⟨_, rfl, _, rfl, _, rfl, rfl, rfl, mk⟩
        · refine iteFe (by simp [cf]) ⟨_, rfl, rfl, _, rfl, iteT ⟨_, rfl, rfl, _, rfl, iteT ?_⟩⟩
          exact ⟨_, rfl, _, rfl, _, rfl, _, rfl, rfl, rfl, mk⟩
def AllI (xs : List V) : Prop := ∀ x ∈ xs, ∃ n : Int, x = .int n
def spCells (K : PySem.W.Frag) : Sp := fun vs H Q _ => ∃ (a : Addr) (ns : List Int), vs = [.ref a, .int 6] ∧ SqL K H a (ns.map V.int) ∧ ns.length ≤ 63 ∧
  ∀ p H' xs, Same H H' → H' p = some (.lst xs) → AllI xs → Q (.ref p) H'
theorem scCells : FnScope ["_law_script", "_law_most"] ["_law_script", "_law_most"] (defScope tCells) := ⟨rfl, rfl, rfl, by decide +kernel, rfl, by decide +kernel, by decide +kernel⟩
theorem ok_cells {f : Addr} {fd : FuncData} (F : Fun K "_law_cells" "_law_cells" tCells f fd) (T : Bl mg) : FnOk P w K mg base CX0 1 f fd ["_law_script", "_law_most"] (spCells K) := by
  refine F.ok scCells (fun vs H Q E h => ?_) (fun cdv A outer s H vs Q E hr h => ?_)
  · obtain ⟨a, ns, rfl, _⟩ := h
    rfl
  · obtain ⟨a, ns, rfl, hS, hl, k⟩ := h
    refine ⟨_, pss_one (ps_ret (pe_ifExp (pt_cmpR op_gt (pe_callB call_len_seq (by rfl) T.len PySem.boot_len (pa_cons (pv 0) pa_nil)) pe_int (nomark _))
      (pe_callTy call_list_of (by rfl) T.list (by decide +kernel) (pa_cons (pe_slice sl_list (pv 0) po_none (po_some (pv 1))) pa_nil))
      (pe_lst (pa_cons pe_int pa_nil)))), ?_⟩
    refine ⟨_, rfl, a, _, rfl, .inl hS, _, _, rfl, rfl, _, rfl, ite2 (fun _ => ?_) (fun _ => ?_)⟩
    · refine ⟨_, rfl, _, rfl, _, rfl, a, _, rfl, hS, fun p np => ⟨p, _, rfl, .inl (SqL.of upd_same), fun l nl => k l _ _ ((grow np).trans (grow nl)) upd_same ?_⟩⟩
      intro x hx
      obtain ⟨n, _, rfl⟩ := List.mem_map.mp (List.mem_of_mem_drop (List.mem_of_mem_take hx))
      exact ⟨n, rfl⟩
    · refine ⟨(by show 1 ≤ sizeLine; decide), fun l nl => k l _ _ (grow nl) upd_same ?_⟩
      intro x hx
      rw [List.mem_singleton] at hx
      exact ⟨_, hx⟩
theorem kd_same {d : Addr} {H H1 : Hp} (n : H d = none) (k : But d H H1) : Same H H1 := fun b o e => by
  have hb : b ≠ d := by
    rintro rfl
    rw [n] at e
    cases e
  rw [k b hb]
  exact e
theorem kd_on {d : Addr} {H H1 H2 : Hp} (n : H d = none) (s : Same H H1) (k : Kd d H1 H2) : Same H H2 := fun b o e => by
  have hb : b ≠ d := by
    rintro rfl
    rw [n] at e
    cases e
  exact k.but _ _ hb (s _ _ e)
end
section
variable {P : Program} {w : World} {K : PySem.W.Frag} {mg : Str → Option Value} {base : Heap}
def spTruth : Sp := fun vs H Q _ => ∃ a b : Bool, vs = [.bl a, .bl b] ∧ Q (.bl (a == b)) H
theorem slTruth : FnScope ["_law_value", "_law_due"] ["_law_value", "_law_due"] (defScope lTruth) := ⟨rfl, rfl, rfl, by decide +kernel, rfl, by decide +kernel, by decide +kernel⟩
theorem lok_truth {f : Addr} {fd : FuncData} (F : Fun K "_law_is_truth" "_law_is_truth" lTruth f fd) (T : Txt K mg) : FnOk P w K mg base CX0 1 f fd ["_law_value", "_law_due"] spTruth := by
  refine F.ok slTruth (fun vs H Q E h => ?_) (fun cdv A outer s H vs Q E hr h => ?_)
  · obtain ⟨a, b, rfl, _⟩ := h
    rfl
  · obtain ⟨a, b, rfl, k⟩ := h
    refine ⟨_, pss_one (ps_ret (pe_and (pe_callB call_isi (by rfl) T.isi (by decide +kernel) (pa_cons (pv 0) (pa_cons (pe_bltn (v := .ty "bool") (by rfl) T.bool (by decide +kernel) rfl) pa_nil))) (pe_one (pe_cmpR op_eq (pv 0) (pv 1) (nomark _))))), ?_⟩
    refine ⟨_, rfl, _, _, _, _, _, rfl, ClsV.ty _, .base (.bl a), kit_ty (r := true) (by decide +kernel), _, rfl, iteT ⟨_, rfl, _, rfl, rfl, ?_⟩⟩
    show Q (.bl (decide (V.bl a = V.bl b))) H
    rw [dec_bl]
    exact k
end
end K14
/-! name = [y for x, y in zip(range(n), generator)] -/
namespace L2.My
open PySem PySem.Spec PyProof.Rows GenW L2
section
variable {X : Cx}
theorem zip_core {pins : List (Addr × Obj)} {s : Shared} {σ : L2.St} {H : Hp} {Q : VK} {use : Option (Value → Sem Unit)} {Qf : Value → Shared → Prop} {pos' : Pos} {ex G : Expr} {x y : Str} {xp yp yp2 zp rp rpos zpos tpos pos : Pos} {kk : Nat} {scope : Scope} {own : List (Str × Nat)} {k : Nat} {te : TE} {tg : TGN} (ok : BlkOk X.N X.env.scope scope own) (he : PE X ex te) (hG : PGenN X k G tg) (hr : Room (k + 2) X.A)
    (hgz : Gl X "zip") (hmz : X.mg "zip" = none) (hgr : Gl X "range") (hmr : X.mg "range" = none)
    (hkx : ∀ cl C, (compEnvC scope cl C X.env).kindOf x = some .local) (hky : ∀ cl C, (compEnvC scope cl C X.env).kindOf y = some .local) (hdy : (y == ("__debug__" : Str)) = false := by decide)
    (ha1 : starEach [.Call (.Name "range" rp) [ex] [] rpos, G] X.env = (false, eval (.Call (.Name "range" rp) [ex] [] rpos) X.env) :: starEach [G] X.env := by rfl) (ha2 : starEach [G] X.env = (false, eval G X.env) :: starEach [] X.env := by rfl)
    (ha3 : starEach [ex] X.env = (false, eval ex X.env) :: starEach [] X.env := by rfl) (hpl : (backTo zpos (starEach [G] X.env)).any (·.1) = false := by rfl)
    (hs : ∀ v, foldedSetIterable (.Call (.Name "zip" zp) [.Call (.Name "range" rp) [ex] [] rpos, G] [] zpos) X.env v = pure v := by intro _; rfl)
    (I : Inv X pins σ H s) (h : tZipN te tg σ H Q) (hRR : ∀ D C s' m H', Inv X pins σ H' s' → Q (.ref D) H' → s'.heap.Ns C m → FpOk X pins H' C → compPost (model X.prog X.w) X.A X.xe use Qf (.ref D) C (.ok .next) s') :
    wpAny (model X.prog X.w) X.A (comprehension (.ListComp (.Name y yp) [⟨.Tuple [.Name x xp, .Name y yp2] kk tpos, .Call (.Name "zip" zp) [.Call (.Name "range" rp) [ex] [] rpos, G] [] zpos, [], 0⟩] scope pos) scope X.env pos' (newList []) false (eval (.Call (.Name "zip" zp) [.Call (.Name "range" rp) [ex] [] rpos, G] [] zpos) X.env) use) Qf X.xe s := by
  have hfree : ∀ z ∈ scope.names, z.2 = .free → ∃ c, X.env.cells.lookup z.1 = some c := fun z hz e => by
    rcases ok.free z hz e with q | q
    · exact I.ok.has _ (.inl q)
    · exact I.ok.has _ (.inr q)
  refine wpAny_comprehension_free (use := use) rfl hs (closure_ok hfree) ok.kind (fun z hz e => by rw [ok.uniq z hz, e]) ?_
  refine Call_ (ld_blt I hgz hmz PyProof.Rows.boot_zip (PyProof.Rows.callWith_type1 (PyProof.Rows.args_cons ?_ ha1) ha1 hpl))
  refine Call_ (ld_blt I hgr hmr boot_range (PyProof.Rows.callWith_type1 (PyProof.Rows.args_cons (thn (he.run pins s σ H _ I h) fun v s1 ⟨v1, H1, I1, r1, q1⟩ => PyProof.Rows.args_nil ?_) ha3) ha3 rfl))
  obtain ⟨n, rfl, n0, n1, n2, q⟩ := q1
  obtain ⟨tk, rfl⟩ := r1
  refine call_range_1 ?_
  -- the range
  have fr := I1.fpOk (b := s1.heap.objs.size) (Nat.le_refl _) (I1.hok.fresh (Nat.le_refl _))
  obtain ⟨s2, hs2⟩ : ∃ s2 : Shared, s2 = { s1 with heap := s1.heap.push { cls := .type "range", data := .fields #[.int 0 s1.toks, .int n tk, .int 1 (s1.toks + 1)] }, toks := s1.toks + 1 + 1 } := ⟨_, rfl⟩
  have rr : IsRange s2.heap s1.heap.objs.size 0 n 1 s1.toks tk (s1.toks + 1) := by
    rw [hs2]
    exact Heap.get?_push_size _ rfl
  have I2 : Inv X pins σ H1 s2 := by
    rw [hs2]
    exact I1.kept fun b o e => Heap.get?_push_of_some _ e
  rw [← hs2]
  clear hs2
  generalize s1.heap.objs.size = r at fr rr ⊢
  generalize s1.toks = t1 at rr
  have I3 : Inv X ((r, { cls := .type "range", dict := none, data := .fields #[.int 0 t1, .int n tk, .int 1 (t1 + 1)], slots := #[] }) :: pins) σ H1 s2 := I2.pins_of fun p hp => by
    rcases List.mem_cons.mp hp with rfl | hp
    · exact ⟨rr, fr.1, fr.2.1, fr.2.2.1, fun v z => by cases z⟩
    · exact I2.pin p (List.mem_append_right _ hp)
  -- the generator
  refine PyProof.Rows.args_cons (thn (hG.run _ s2 σ H1 n _ I3 q) fun u s3 hu => PyProof.Rows.args_nil ?_) ha2
  obtain ⟨a, g, c, σg, XA, H2, sc, rfl, I4, M⟩ := hu
  have I5 : Inv X pins σ H2 sc := I4.pins_of fun p hp => I4.pin p (List.mem_append_right _ (List.mem_cons_of_mem _ hp))
  have r3 : IsRange s3.heap r 0 n 1 t1 tk (t1 + 1) := M.keep _ _ (I4.pin _ (List.mem_append_right _ List.mem_cons_self)).1
  refine call_zipG n1 r3 M.gen fun h4 z4 t4 o4 i4 sz4 k4 => ?_
  refine wpAny_pyIter_zip (s := { s3 with heap := h4 }) z4 ?_
  refine wpAny_newObj_type (newEnv_comp ?_) (by show 0 ≤ sizeLine; decide)
  show codeAny _ _ (.compStart _ 0 _ _ (compEnvC scope _ (h4.push { cls := .type "list", data := .seq ([] : List Value).toArray }).objs.size X.env)) (compPost _ _ _ use _ _ (h4.push { cls := .type "list", data := .seq ([] : List Value).toArray }).objs.size) { s3 with heap := pushCells ((h4.push { cls := .type "list", data := .seq ([] : List Value).toArray }).push { cls := .type "dict", data := .dict #[] }) scope.names }
  have szD : (h4.push { cls := .type "list", data := .seq ([] : List Value).toArray }).objs.size = s3.heap.objs.size + 5 := by rw [Heap.size_push, sz4]
  rw [szD]
  obtain ⟨h5, hh5⟩ : ∃ h5 : Heap, h5 = pushCells ((h4.push { cls := .type "list", data := .seq ([] : List Value).toArray }).push { cls := .type "dict", data := .dict #[] }) scope.names := ⟨_, rfl⟩
  have k5 : ∀ b o, h4.get? b = some o → h5.get? b = some o := fun b o e => by
    rw [hh5]
    exact pushCells_keeps _ _ _ _ (Heap.get?_push_of_some _ (Heap.get?_push_of_some _ e))
  have eD : h5.get? (s3.heap.objs.size + 4) = some (lstObj #[] 0) := by
    rw [hh5, ← sz4]
    exact pushCells_keeps _ _ _ _ (Heap.get?_push_of_some _ (Heap.get?_push_size _ rfl))
  have nC : h5.Ns (s3.heap.objs.size + 5) fun _ => none := by
    rw [hh5, ← szD]
    exact Heap.Ns.keeps (Heap.Ns.new ..) fun b o e => pushCells_keeps _ _ _ _ e
  rw [← hh5]
  clear hh5
  have hlt := M.hi
  have hlo := M.lo
  have z5 := k5 _ _ z4
  have t5 := k5 _ _ t4
  have o5 := k5 _ _ o4
  have i5 := k5 _ _ i4
  have eZ : h4.objs.size = s3.heap.objs.size + 4 := sz4
  rw [show ({ s3 with heap := h4 } : Shared).heap.objs.size = s3.heap.objs.size + 4 from sz4]
  have fs5 : ∀ b o, s3.heap.get? b = some o → h5.get? b = some o := fun b o e => k5 _ _ (k4 _ _ e)
  have g5 : h5.IsGen a g := M.gen.keeps fs5
  have hos := M.os
  have hba := M.bare
  obtain ⟨N, hN⟩ : ∃ N, N = s3.heap.objs.size := ⟨_, rfl⟩
  rw [← hN] at hlt z5 t5 o5 i5 eD nC ⊢
  clear z4 t4 o4 i4 sz4 k4 k5 szD eZ
  obtain ⟨ad, had⟩ : ∃ ad, ad = [a, N + 3, N + 1, N + 2, N, N + 5] := ⟨_, rfl⟩
  have df : ZDif (N + 4) a (N + 3) (N + 1) (N + 2) N (N + 5) := mk_dif hlt
  have late : ∀ b ∈ (N + 4) :: [a, N + 3, N + 1, N + 2, N, N + 5], b = a ∨ s3.heap.objs.size ≤ b := fun b hb => by
    rw [← hN]
    simp only [List.mem_cons, List.not_mem_nil, or_false] at hb
    omega
  have hoff : ∀ b ∈ (N + 4) :: [a, N + 3, N + 1, N + 2, N, N + 5], Off (XA X.A.in1.in1) b := fun b hb => M.off _ b (late b hb)
  have room : Room k X.A.in1.in1 := Room.in1 (Room.in1 hr)
  have frames : X.A.in1.in1.frames = some X.stack := I5.ok.frames
  obtain ⟨c1, c2, c3, c4, c5, c6, hpn⟩ := M.cx X.A.in1.in1
  -- the end
  have fin : ∀ (s' : Shared) (ys' : List V) (σ' : L2.St) (H' : Hp) (m : Str → Option Value), NI (XA X.A.in1.in1) (N + 4) [a, N + 3, N + 1, N + 2, N, N + 5] ys' σ' H' s' s' → s'.heap.Ns (N + 5) m → ys'.length ≤ n → (∀ D, H' D = none → Q (.ref D) (upd H' D (.lst ys'))) →
      compPost (model X.prog X.w) X.A X.xe use Qf (.ref (N + 4)) (N + 5) (.ok .next) s' := fun s' ys' σ' H' m ni ns le oo => by
    obtain ⟨nD, nad, acc, cc, rv, e4⟩ := ni.at
    obtain ⟨_, _, _, _, _, Ig, _⟩ := ni
    have un : Un (frs X.stack) [] H2 H' sc.heap s'.heap := by
      have b := Ig.base
      unfold Cx.fs at b
      rw [c5, c6, c4, c3] at b
      exact b
    have hok : HOk X.prog X.w H' s'.heap := by
      have b := Ig.hok
      rw [c1, c2] at b
      exact b
    have os : s'.os = sc.os := by
      have b := Ig.os
      rw [c3] at b
      exact b
    have I7 : Inv X pins σ (upd H' (N + 4) (.lst ys')) s' := I5.drained (S := N + 4) (Nat.le_trans hlo (Nat.le_trans (Nat.le_of_lt hlt) (Nat.le_add_right _ _))) (Nat.le_trans le n2) e4 rv .nil os Ig.bare un hok nD
    have ff := I5.fpOk (b := N + 5) (H' := upd H' (N + 4) (.lst ys')) (Nat.le_trans hlo (Nat.le_trans (Nat.le_of_lt hlt) (Nat.le_add_right _ _))) (by rw [upd_ne df.dc.symm]; exact nad _ (by simp))
    exact hRR (N + 4) (N + 5) s' m _ I7 (oo _ nD) ns ff
  have ce_kind : ∀ cl C, (compEnvC scope cl C X.env).scope.kind = .function := fun _ _ => ok.kind
  have ce_cls : ∀ cl C, ((compEnvC scope cl C X.env).scope.kind == .class || ((compEnvC scope cl C X.env).scope.kind == .module && (compEnvC scope cl C X.env).locals != (compEnvC scope cl C X.env).globals)) = false := fun cl C => by
    rw [ce_kind]
    rfl
  generalize cellsFrom _ scope.names _ = cl
  have NI0 : NI (XA X.A.in1.in1) (N + 4) [a, N + 3, N + 1, N + 2, N, N + 5] [] σg H2 { s3 with heap := h5 } { s3 with heap := h5 } :=
    M.begin_ _ _ _ { s3 with heap := h5 } room frames late hos hba fs5 ⟨0, eD⟩ (own_there (s' := { s3 with heap := h5 }) g5 z5 t5 o5 i5 nC)
  have loop : codeAny (model X.prog X.w) X.A (.compLoop (.ListComp (.Name y yp) [⟨.Tuple [.Name x xp, .Name y yp2] kk tpos, .Call (.Name "zip" zp) [.Call (.Name "range" rp) [ex] [] rpos, G] [] zpos, [], 0⟩] scope pos) 0 (.ref (N + 3)) (.ref (N + 4)) (compEnvC scope cl (N + 5) X.env))
      (compPost (model X.prog X.w) X.A X.xe use Qf (.ref (N + 4)) (N + 5)) { s3 with heap := h5 } := by
    refine compLoop_any (fun m s' => ∃ kk ys' σ' H' gs x0 y0 mm, m = n - kk ∧ kk ≤ n ∧ ZAt X X.A.in1.in1 XA (N + 4) a g (N + 3) (N + 1) (N + 2) N (N + 5) n (fun ys H' => ∀ D, H' D = none → Q (.ref D) (upd H' D (.lst ys))) kk s' ys' σ' H' gs x0 y0 mm) ?_ n
      ⟨0, [], σg, H2, .fresh c, .none, .none, fun _ => none, rfl, Nat.zero_le _, rfl, NI0, z5, t5, o5, by simpa using i5, nC, g5, M.fresh, fun _ s' hs' => ⟨rfl, M.wake _ _ _ s' room frames hs'⟩, fun z => absurd z (by omega)⟩
    rintro m s' ⟨kk, ys', σ', H', gs, x0, y0, mm, rfl, hk, q⟩
    refine zip_turn (kr := k) hr rfl df hoff hpn hk q (fun s6 ys6 σ6 H6 ni ns le oo => fin s6 ys6 σ6 H6 mm ni ns le oo) fun s6 gs' ys6 xv v tk6 σ6 H6 T zg => ?_
    obtain ⟨_, _, acc, cc, rv, e6⟩ := zg.ni.at
    show wpAny _ _ (letOwnedTupleGo _ _ _) _ _ _
    refine wpAny_letOwnedTupleGo_zip zg.z fun h7 z7 sb7 => ?_
    have tt : IsPair h7 T (.int kk tk6) v := (sb7.2 _ zg.tz).trans zg.tup
    refine assign_Tuple_tuple (s := { s6 with heap := h7 }) hr.hd (tup_of tt) rfl rfl fun h8 ex8 => ?_
    have k8 : ∀ b o, b ≠ N + 3 → s6.heap.get? b = some o → h8.get? b = some o := fun b o hb e => ex8 b o (Nat.ne_of_lt (Heap.lt_size ((sb7.2 b hb).trans e))) ((sb7.2 b hb).trans e)
    have ns8 : h8.Ns (N + 5) mm := ns_one zg.ns fun o e => k8 _ _ df.cz e
    refine assignInOrder_cons (wpAny_assign_Name (wpAny_storeName_local (hkx cl (N + 5)) ns8 (fun h9 ns9 sb9 => ?_) (ce_cls cl (N + 5))))
    refine assignInOrder_cons (wpAny_assign_Name (wpAny_storeName_local (hky cl (N + 5)) ns9 (fun h10 ns10 sb10 => PyProof.Rows.assignInOrder_nil ?_) (ce_cls cl (N + 5))))
    refine wpAny_tests_nil ?_
    rw [if_pos rfl]
    have k10 : ∀ b o, b ≠ N + 3 → b ≠ N + 5 → s6.heap.get? b = some o → h10.get? b = some o := fun b o h1 h2 e => (sb10.2 b h2).trans ((sb9.2 b h2).trans (k8 b o h1 e))
    refine wpAny_Name (wpAny_loadName_local (v := v) (ce_kind cl (N + 5)) (hky cl (N + 5)) ns10 (if_pos rfl) ?_) hdy
    have e10 : h10.get? (N + 4) = some (lstObj acc cc) := k10 _ _ df.dz df.dc e6
    have len6 : acc.size = kk := by
      have e1 := rv.length
      rw [zg.len] at e1
      simpa using e1.symm
    have hk6 := zg.lt
    refine append_at e10 (fun h11 sb11 e11 => ?_) (by omega)
    have k11 : ∀ b o, b ≠ N + 3 → b ≠ N + 5 → b ≠ N + 4 → s6.heap.get? b = some o → h11.get? b = some o := fun b o h1 h2 h3 e => (sb11.2 b h3).trans (k10 b o h1 h2 e)
    have z11 : IsZip h11 (N + 3) (N + 1) (N + 2) .none := (sb11.2 _ df.dz.symm).trans ((sb10.2 _ df.cz.symm).trans ((sb9.2 _ df.cz.symm).trans (ex8 _ _ (Nat.ne_of_lt (Heap.lt_size z7)) z7)))
    have t11 := k11 _ _ df.zd.tz df.ct.symm df.dt.symm zg.ti
    have o11 := k11 _ _ df.zd.oz df.co.symm df.do_.symm zg.to
    have i11 := k11 _ _ df.zd.iz df.ci.symm df.di.symm zg.rg
    have g11 : h11.IsGen a g := gen_one zg.gen fun o e => k11 _ _ df.az df.ac df.ad e
    have n11 := ns_one ns10 fun o e => (sb11.2 _ df.dc.symm).trans e
    have i12 : IsRangeIter h11 N ((kk + 1 : Nat) : Int) ((n : Int) - ((kk + 1 : Nat) : Int)) 1 := by
      have a1 : ((kk + 1 : Nat) : Int) = (kk : Int) + 1 := by omega
      have a2 : (n : Int) - ((kk : Int) + 1) = (n : Int) - kk - 1 := by omega
      rw [a1, a2]
      exact i11
    refine ⟨n - (kk + 1), by omega, kk + 1, ys6 ++ [xv], σ6, H6, gs', _, _, _, rfl, hk6, by rw [List.length_append, zg.len]; rfl, ?_, z11, t11, o11, i12, n11, g11, zg.st, fun hlt' s' hs' => ?_, fun z => zg.last (by omega)⟩
    · refine zg.ni.turn hoff hpn rfl zg.ni.bare (fun b o hb e => ?_) ⟨_, _, ?_, e11⟩ (own_there (s' := { s6 with heap := h11, toks := _ }) g11 z11 t11 o11 i12 n11)
      · simp only [List.mem_cons, List.not_mem_nil, or_false, not_or] at hb
        exact k11 b o hb.2.2.1 hb.2.2.2.2.2.2 hb.1 e
      · rw [Array.toList_push]
        exact rv.append (.cons zg.rel .nil)
    · obtain ⟨j, hj⟩ : ∃ j, n - kk = j + 2 := ⟨n - kk - 2, by omega⟩
      have e := zg.goes j hj s' hs'
      rw [show n - (kk + 1) = j + 1 by omega]
      exact e
  exact codeAny_compStart_list loop (wpAny_pyIter_zip z5 loop)
theorem ps_setZipN {i : Nat} {z : Str} {pz spos : Pos} {ex G : Expr} {x y : Str} {xp yp yp2 zp rp rpos zpos tpos pos : Pos} {kk : Nat} {scope : Scope} {own : List (Str × Nat)} {k : Nat} {te : TE} {tg : TGN} (ok : BlkOk X.N X.env.scope scope own) (he : PE X ex te) (hG : PGenN X k G tg) (hr : Room (k + 2) X.A)
    (hgz : Gl X "zip") (hmz : X.mg "zip" = none) (hgr : Gl X "range") (hmr : X.mg "range" = none)
    (hkx : ∀ cl C, (compEnvC scope cl C X.env).kindOf x = some .local) (hky : ∀ cl C, (compEnvC scope cl C X.env).kindOf y = some .local)
    (hN : X.N.Nodup) (hz : X.N[i]? = some z) (hzl : X.env.scope.names.lookup z = some .local) (hsw : swapsWith (.ListComp (.Name y yp) [⟨.Tuple [.Name x xp, .Name y yp2] kk tpos, .Call (.Name "zip" zp) [.Call (.Name "range" rp) [ex] [] rpos, G] [] zpos, [], 0⟩] scope pos) (some (.Name z pz)) spos.line X.env = pure true)
    (hdy : (y == ("__debug__" : Str)) = false := by decide)
    (ha1 : starEach [.Call (.Name "range" rp) [ex] [] rpos, G] X.env = (false, eval (.Call (.Name "range" rp) [ex] [] rpos) X.env) :: starEach [G] X.env := by rfl) (ha2 : starEach [G] X.env = (false, eval G X.env) :: starEach [] X.env := by rfl)
    (ha3 : starEach [ex] X.env = (false, eval ex X.env) :: starEach [] X.env := by rfl) (hpl : (backTo zpos (starEach [G] X.env)).any (·.1) = false := by rfl)
    (hs : ∀ v, foldedSetIterable (.Call (.Name "zip" zp) [.Call (.Name "range" rp) [ex] [] rpos, G] [] zpos) X.env v = pure v := by intro _; rfl) :
    PS X (.Assign [.Name z pz] (.ListComp (.Name y yp) [⟨.Tuple [.Name x xp, .Name y yp2] kk tpos, .Call (.Name "zip" zp) [.Call (.Name "range" rp) [ex] [] rpos, G] [] zpos, [], 0⟩] scope pos) spos) (tAsg (tZipN te tg) (gName i)) := by
  refine ⟨fun pins s σ H D I h => ?_⟩
  rw [exec_Assign_Name_used _ _ _ _ hsw]
  refine wpAny_bind (wpAny_standAt (wpAny_bind ?_))
  show wpAny _ X.A (do let _ ← comprehension (.ListComp (.Name y yp) [⟨.Tuple [.Name x xp, .Name y yp2] kk tpos, .Call (.Name "zip" zp) [.Call (.Name "range" rp) [ex] [] rpos, G] [] zpos, [], 0⟩] scope pos) scope X.env (firstIterPos [⟨.Tuple [.Name x xp, .Name y yp2] kk tpos, .Call (.Name "zip" zp) [.Call (.Name "range" rp) [ex] [] rpos, G] [] zpos, [], 0⟩] pos) (newList []) false (eval (.Call (.Name "zip" zp) [.Call (.Name "range" rp) [ex] [] rpos, G] [] zpos) X.env) (some (assign (.Name z pz) X.env))) _ _ s
  have h : tZipN te tg σ H (fun x H1 => gName i x σ H1 D.nx) := h
  refine wpAny_bind (thn (zip_core (Qf := fun _ s' => SP X pins D .next s') ok he hG hr hgz hmz hgr hmr hkx hky hdy ha1 ha2 ha3 hpl hs I h fun L C s' m H' I' q hn f => ?_) fun _ s' hq => wpAny_pure (wpAny_pure hq))
  show wpAny _ _ (assign (.Name z pz) X.env (.ref L)) _ _ _
  refine wpAny_assign_Name (store_ok2 (v := V.ref L) I' hN hz (.inl hzl) rfl (fun s2 I2 ⟨a, sb, ha⟩ => ?_) (.inr hzl))
  obtain ⟨f0, f1, f2, f3, f4, f5⟩ := f
  have haC : C ≠ a := by
    rcases ha with z | z
    · rw [z]; exact f1
    · exact fun e => f4 _ a z e.symm
  refine ⟨m, hn.sameBut sb haC, fun h3 sb3 => ?_⟩
  exact ⟨_, H', I2.turned (t' := s2.toks) (fun b o hb e => (sb3.2 b hb).trans e) f0 f1 f3 f4 f5, q⟩
end
end L2.My
/-! a statement's rest by what holds behind it; a choice of two numbers -/
namespace L2
theorem seq_asg {te : TE} {g : TG} {u : TS} {D : Ends} {σ : L2.St} {H : Hp} (R : V → Hp → Prop) (k : ∀ Q : VK, (∀ v H', R v H' → Q v H') → te σ H Q) (h : ∀ v H', R v H' → g v σ H' (u D)) : tSeq (tAsg te g) u D σ H := k _ h
theorem seq_if {c : TT} {a b u : TS} {D : Ends} {σ : L2.St} {H : Hp} (R : L2.St → Hp → Prop) (k : ∀ D' : Ends, D'.rt = D.rt → (∀ σ' H', R σ' H' → D'.nx σ' H') → tIfS c a b D' σ H) (h : ∀ σ' H', R σ' H' → u D σ' H') : tSeq (tIfS c a b) u D σ H := k { D with nx := u D } rfl h
theorem tIf_int {tt : TT} {ta tb : TE} {σ : L2.St} {H : Hp} {Q : VK} {x y : Int} {c : Prop} [Decidable c] (ht : ∀ R : Bool → Hp → Prop, R (decide c) H → tt σ H R) (ha : ∀ Q : VK, Q (.int x) H → ta σ H Q) (hb : ∀ Q : VK, Q (.int y) H → tb σ H Q) (k : Q (.int (if c then x else y)) H) : tIf tt ta tb σ H Q := by
  refine ht _ ?_
  by_cases h : c
  · rw [if_pos h] at k
    rw [decide_eq_true h]
    exact iteT (ha _ k)
  · rw [if_neg h] at k
    rw [decide_eq_false h]
    exact iteF (hb _ k)
end L2
namespace Met
/-! ### parts of the pairs: by a distance, by a later round; both orders of the places -/
def nearB (b : Bd) (cut : Int) : Bd := ⟨b.low, some (match b.high with | none => cut | some h => if h < cut then h else cut), b.first, b.rounds⟩
def farB (b : Bd) (cut : Int) : Bd := ⟨cut + 1, b.high, b.first, b.rounds⟩
def upTo (b : Bd) (r : Int) : Bd := ⟨b.low, b.high, b.first, some r⟩
theorem keeps_near {b : Bd} {cut : Int} (e : Pr) : Keeps (nearB b cut) e ↔ Keeps b e ∧ e.2 - e.1 ≤ cut := by
  obtain ⟨low, high, first, rounds⟩ := b
  unfold Keeps nearB
  cases high with
  | none =>
    constructor
    · rintro ⟨a, b, c, d⟩
      exact ⟨⟨a, b, (fun h e => by cases e), d⟩, c _ rfl⟩
    · rintro ⟨⟨a, b, c, d⟩, g⟩
      exact ⟨a, b, (fun h e => by cases e; exact g), d⟩
  | some x =>
    constructor
    · rintro ⟨a, b, c, d⟩
      have c := c _ rfl
      refine ⟨⟨a, b, fun h e => ?_, d⟩, ?_⟩
      · cases e
        dsimp only at c
        split at c <;> omega
      · dsimp only at c
        split at c <;> omega
    · rintro ⟨⟨a, b, c, d⟩, g⟩
      have c := c _ rfl
      refine ⟨a, b, fun h e => ?_, d⟩
      cases e
      dsimp only
      split <;> omega
theorem keeps_far {b : Bd} {cut : Int} (hc : b.low ≤ cut) (e : Pr) : Keeps (farB b cut) e ↔ Keeps b e ∧ cut < e.2 - e.1 := by
  unfold Keeps farB
  constructor
  · rintro ⟨a, b', c, d⟩
    have b' : cut + 1 ≤ e.2 - e.1 := b'
    exact ⟨⟨a, by omega, c, d⟩, by omega⟩
  · rintro ⟨⟨a, b', c, d⟩, g⟩
    exact ⟨a, by show cut + 1 ≤ e.2 - e.1; omega, c, d⟩
section
variable {p q : Pr} {b : Bd} {cut : Int}
theorem part_iff (hc : b.low ≤ cut) (e : Pr) : Good p q b e ↔ Good p q (nearB b cut) e ∨ Good p q (farB b cut) e := by
  unfold Good
  rw [keeps_near, keeps_far hc]
  constructor
  · rintro ⟨m, k⟩
    by_cases c : e.2 - e.1 ≤ cut
    · exact .inl ⟨m, k, c⟩
    · exact .inr ⟨m, k, by omega⟩
  · rintro (⟨m, k, _⟩ | ⟨m, k, _⟩) <;> exact ⟨m, k⟩
theorem part_no (hc : b.low ≤ cut) (e : Pr) : Good p q (nearB b cut) e → ¬ Good p q (farB b cut) e := by
  unfold Good
  rw [keeps_near, keeps_far hc]
  rintro ⟨_, _, a⟩ ⟨_, _, c⟩
  omega
theorem part_near (nz : p.1 ≠ 0 ∨ q.1 ≠ 0) (hc : b.low ≤ cut) {e : Pr} (h : (told p q (nearB b cut)).near = some e) : (told p q b).near = some e := by
  have sp := told_spec b nz
  have l := (told_spec (nearB b cut) nz).near e h
  have lw : LeastBy kNear (Good p q b) e := by
    refine ⟨(part_iff hc e).mpr (.inl l.1), fun x g => ?_⟩
    rcases (part_iff hc x).mp g with g1 | g2
    · exact l.2 x g1
    · refine .inr (.inl ?_)
      have a := l.1
      unfold Good at a g2
      rw [keeps_near] at a
      rw [keeps_far hc] at g2
      show e.2 - e.1 < x.2 - x.1
      have := a.2.2
      have := g2.2.2
      omega
  cases k : (told p q b).near with
  | none => exact absurd lw.1 (sp.near0 k e)
  | some x => rw [(sp.near x k).one lw]
theorem part_far (nz : p.1 ≠ 0 ∨ q.1 ≠ 0) (hc : b.low ≤ cut) (h : (told p q (nearB b cut)).near = none) : told p q b = told p q (farB b cut) := by
  have no := (told_spec (nearB b cut) nz).near0 h
  refine told_eq nz nz fun e => ?_
  rw [part_iff hc]
  exact ⟨fun z => z.resolve_left (no e), .inr⟩
theorem part_amount (nz : p.1 ≠ 0 ∨ q.1 ≠ 0) (hc : b.low ≤ cut) : (told p q b).amount = (match (told p q (nearB b cut)).amount, (told p q (farB b cut)).amount with | some x, some y => some (x + y) | _, _ => none) := by
  obtain ⟨a1, a2, a3⟩ := amount_sum (told_spec b nz) (told_spec (nearB b cut) nz) (told_spec (farB b cut) nz) (part_iff hc) (part_no hc)
  cases k1 : (told p q (nearB b cut)).amount with
  | none => rw [a1 k1]
  | some x =>
    cases k2 : (told p q (farB b cut)).amount with
    | none => rw [a2 k2]
    | some y => rw [a3 x y k1 k2]
end
section
variable {p q : Pr} {b : Bd}
theorem keeps_up {r : Int} (x : Pr) : Keeps (upTo b r) x ↔ (b.first ≤ x.1 ∧ b.low ≤ x.2 - x.1 ∧ ∀ h, b.high = some h → x.2 - x.1 ≤ h) ∧ x.2 < r := by
  unfold Keeps upTo
  constructor
  · rintro ⟨a, c, d, f⟩
    exact ⟨⟨a, c, d⟩, f r rfl⟩
  · rintro ⟨⟨a, c, d⟩, f⟩
    exact ⟨a, c, d, fun r x => by cases x; exact f⟩
theorem up_not {e : Pr} : ¬ Good p q (upTo b e.2) e := by
  rintro ⟨_, k⟩
  rw [keeps_up] at k
  omega
theorem up_has {e : Pr} (g : Good p q b e) : Good p q (upTo b (e.2 + 1)) e := by
  obtain ⟨m, a, c, d, _⟩ := g
  exact ⟨m, (keeps_up e).mpr ⟨⟨a, c, d⟩, by omega⟩⟩
theorem up_le {r s : Int} (h : r ≤ s) {x : Pr} (g : Good p q (upTo b r) x) : Good p q (upTo b s) x := by
  obtain ⟨m, k⟩ := g
  rw [keeps_up] at k
  exact ⟨m, (keeps_up x).mpr ⟨k.1, by omega⟩⟩
theorem up_amount (nz : p.1 ≠ 0 ∨ q.1 ≠ 0) (l0 : 0 ≤ b.low) (f0 : 0 ≤ b.first) (r : Int) : ∃ m, (told p q (upTo b r)).amount = some m := by
  refine amount_box (told_spec (upTo b r) nz) r.natAbs fun e g => ?_
  have k := g.2
  rw [keeps_up] at k
  obtain ⟨⟨a, c, d⟩, f⟩ := k
  omega
theorem up_one (nz : p.1 ≠ 0 ∨ q.1 ≠ 0) (h1 : p.1 ≠ 0) {e : Pr} (g : Good p q b e) {m : Int} (k : (told p q (upTo b e.2)).amount = some m) : (told p q (upTo b (e.2 + 1))).amount = some (m + 1) := by
  refine amount_one (e := e) (told_spec _ nz) (told_spec (upTo b e.2) nz) (fun x => ⟨fun gx => ?_, fun z => ?_⟩) up_not k
  · by_cases c : x.2 < e.2
    · refine .inl ⟨gx.1, ?_⟩
      have kx := gx.2
      rw [keeps_up] at kx
      exact (keeps_up x).mpr ⟨kx.1, c⟩
    · have kx := gx.2
      rw [keeps_up] at kx
      have e2 : x.2 = e.2 := by omega
      refine .inr ?_
      have mx : p.1 * x.1 + p.2 = q.1 * x.2 + q.2 := gx.1
      have me : p.1 * e.1 + p.2 = q.1 * e.2 + q.2 := g.1
      rw [e2] at mx
      have e1 : x.1 = e.1 := Int.eq_of_mul_eq_mul_left h1 (by omega)
      exact Prod.ext e1 e2
  · rcases z with z | rfl
    · exact up_le (by omega) z
    · exact up_has g
theorem up_near (nz : p.1 ≠ 0 ∨ q.1 ≠ 0) {e : Pr} (g : Good p q b e) : ∃ x, (told p q (upTo b (e.2 + 1))).near = some x ∧ ∀ y, (told p q (upTo b e.2)).near = some y → x.2 - x.1 ≤ y.2 - y.1 := by
  have sp := told_spec (upTo b (e.2 + 1)) nz
  cases k : (told p q (upTo b (e.2 + 1))).near with
  | none => exact absurd (up_has g) (sp.near0 k e)
  | some x =>
    refine ⟨x, rfl, fun y hy => ?_⟩
    have l := ((told_spec (upTo b e.2) nz).near y hy).1
    rcases (sp.near x k).2 y (up_le (by omega) l) with rfl | h
    · exact Int.le_refl _
    · have h : x.2 - x.1 < y.2 - y.1 ∨ x.2 - x.1 = y.2 - y.1 ∧ x.2 < y.2 := h
      omega
end
section
variable {p q : Pr}
abbrev bZero : Bd := ⟨0, some 0, 0, none⟩
theorem zero_same {e : Pr} (g : Good p q bZero e) : e.1 = e.2 := by
  obtain ⟨_, a, c, d, _⟩ := g
  have c : 0 ≤ e.2 - e.1 := c
  have d := d 0 rfl
  omega
theorem zero_turn (e : Pr) (g : Good p q bZero e) : Good q p bZero e := by
  have s := zero_same g
  obtain ⟨m, k⟩ := g
  have m : p.1 * e.1 + p.2 = q.1 * e.2 + q.2 := m
  refine ⟨?_, k⟩
  show q.1 * e.1 + q.2 = p.1 * e.2 + p.2
  rw [← s] at m ⊢
  exact m.symm
theorem zero_told (nz : p.1 ≠ 0 ∨ q.1 ≠ 0) : told p q bZero = told q p bZero := told_eq nz nz.symm fun e => ⟨zero_turn e, zero_turn e⟩
theorem zero_soon (nz : p.1 ≠ 0 ∨ q.1 ≠ 0) {e : Pr} (h : (told p q bZero).soon = some e) : e.1 = e.2 ∧ ∃ x, (told p q bZero).near = some x ∧ x.2 - x.1 = 0 := by
  have sp := told_spec bZero nz
  have g := (sp.soon e h).1
  refine ⟨zero_same g, ?_⟩
  cases k : (told p q bZero).near with
  | none => exact absurd g (sp.near0 k e)
  | some x =>
    have := zero_same (sp.near x k).1
    exact ⟨x, rfl, by omega⟩
end
end Met
namespace Met
/-! ### k14: what is left behind some rounds, and the copies of rounds that do several rounds in one -/
def mx0 (i : Int) : Int := if i > 0 then i else 0
theorem mx0_nn (i : Int) : 0 ≤ mx0 i := by unfold mx0; split <;> omega
theorem mx0_le {i x : Int} (h : 0 ≤ x) : mx0 i ≤ x ↔ i ≤ x := by unfold mx0; split <;> omega
theorem lt_mx0 {i x : Int} (h : 0 ≤ x) : x < mx0 i ↔ x < i := by unfold mx0; split <;> omega
theorem mx0_of {i : Int} (h : 0 ≤ i) : mx0 i = i := by unfold mx0; split <;> omega
theorem mx0_mx0 {i c : Int} (h : 0 ≤ c) : mx0 (mx0 i - c) = mx0 (i - c) := by unfold mx0; repeat (split <;> try omega)
def peelP (n : Int) (p : Pr) : Pr := (p.1, p.2 + p.1 * n)
def peelB (n : Int) (b : Bd) : Bd := ⟨b.low, b.high, mx0 (b.first - n), b.rounds.map fun r => mx0 (r - n)⟩
section
variable {p q : Pr} {b : Bd}
theorem meet_peel (n : Int) (e : Pr) : Meet (peelP n p) (peelP n q) (e.1 - n, e.2 - n) ↔ Meet p q e := by
  unfold Meet peelP
  have a : ∀ x y z : Int, x * (z - n) + (y + x * n) = x * z + y := fun x y z => by rw [Int.mul_sub]; omega
  show p.1 * (e.1 - n) + (p.2 + p.1 * n) = q.1 * (e.2 - n) + (q.2 + q.1 * n) ↔ _
  rw [a, a]
theorem peel_good {n : Int} (h0 : 0 ≤ n) (l0 : 0 ≤ b.low) (e : Pr) : Good (peelP n p) (peelP n q) (peelB n b) (e.1 - n, e.2 - n) ↔ Good p q b e ∧ n ≤ e.1 := by
  unfold Good
  rw [meet_peel]
  unfold Keeps peelB
  dsimp only
  constructor
  · rintro ⟨m, a, c, d, f⟩
    have a0 := Int.le_trans (mx0_nn _) a
    refine ⟨⟨m, ?_, by omega, fun h z => by have := d h z; omega, fun r z => ?_⟩, by omega⟩
    · rw [mx0_le a0] at a
      omega
    · have := f _ (by rw [z]; rfl)
      rw [lt_mx0 (by omega)] at this
      omega
  · rintro ⟨⟨m, a, c, d, f⟩, g⟩
    refine ⟨m, (mx0_le (by omega)).mpr (by omega), by omega, fun h z => by have := d h z; omega, fun r z => ?_⟩
    cases k : b.rounds with
    | none => rw [k] at z; cases z
    | some r' =>
      rw [k] at z
      cases z
      exact (lt_mx0 (by omega)).mpr (by have := f r' k; omega)
theorem peel_back {n : Int} (h0 : 0 ≤ n) (l0 : 0 ≤ b.low) {e : Pr} (g : Good (peelP n p) (peelP n q) (peelB n b) e) : Good p q b (e.1 + n, e.2 + n) := by
  have z : (e : Pr) = ((e.1 + n) - n, (e.2 + n) - n) := Prod.ext (by show e.1 = e.1 + n - n; omega) (by show e.2 = e.2 + n - n; omega)
  rw [z] at g
  exact ((peel_good h0 l0 (e.1 + n, e.2 + n)).mp g).1
theorem peelP_peelP (n m : Int) : peelP m (peelP n p) = peelP (n + m) p := by
  unfold peelP
  refine Prod.ext rfl ?_
  show p.2 + p.1 * n + p.1 * m = p.2 + p.1 * (n + m)
  rw [Int.mul_add]
  omega
theorem peelB_peelB (n : Int) {m : Int} (h : 0 ≤ m) : peelB m (peelB n b) = peelB (n + m) b := by
  have z : ∀ i : Int, mx0 (mx0 (i - n) - m) = mx0 (i - (n + m)) := fun i => by rw [mx0_mx0 h, Int.sub_sub]
  unfold peelB
  dsimp only
  rw [z]
  cases b.rounds with
  | none => rfl
  | some r => simp only [Option.map_some, z]
theorem peelP_zero : peelP 0 p = p := by
  unfold peelP
  refine Prod.ext rfl ?_
  show p.2 + p.1 * 0 = p.2
  omega
theorem peelB_zero (f0 : 0 ≤ b.first) (r0 : ∀ r, b.rounds = some r → 0 ≤ r) : peelB 0 b = b := by
  obtain ⟨low, high, first, rounds⟩ := b
  unfold peelB
  dsimp only at f0 r0 ⊢
  rw [Int.sub_zero, mx0_of f0]
  cases rounds with
  | none => rfl
  | some r => simp only [Option.map_some, Int.sub_zero, mx0_of (r0 r rfl)]
/-- the least distance of what is left is no smaller -/
theorem peel_dist (nz : p.1 ≠ 0 ∨ q.1 ≠ 0) {n : Int} (h0 : 0 ≤ n) (l0 : 0 ≤ b.low) {e : Pr} (h : (told (peelP n p) (peelP n q) (peelB n b)).near = some e) :
    ∃ x, (told p q b).near = some x ∧ x.2 - x.1 ≤ e.2 - e.1 := by
  have g := peel_back h0 l0 ((told_spec (peelB n b) (p := peelP n p) (q := peelP n q) nz).near e h).1
  have sp := told_spec b nz
  cases k : (told p q b).near with
  | none => exact absurd g (sp.near0 k _)
  | some x =>
    refine ⟨x, rfl, ?_⟩
    rcases (sp.near x k).2 _ g with z | z
    · have a := congrArg Prod.fst z
      have c := congrArg Prod.snd z
      dsimp only at a c
      omega
    · have : (kNear x).1 ≤ (kNear (e.1 + n, e.2 + n)).1 := by
        rcases z with z | ⟨z, _⟩ <;> omega
      have : x.2 - x.1 ≤ e.2 + n - (e.1 + n) := this
      omega
end
/-! ### copies -/
def unP (n i : Int) (p : Pr) : Pr := (n * p.1, p.2 + p.1 * i)
def up' (x n : Int) : Int := -(-x / n)
def unB (n i j : Int) (b : Bd) : Bd := ⟨up' (b.low + i - j) n, b.high.map fun h => (h + i - j) / n, mx0 (up' (b.first - i) n), b.rounds.map fun r => mx0 (up' (r - j) n)⟩
theorem up_le' {x n y : Int} (h : 0 < n) : up' x n ≤ y ↔ x ≤ n * y := by
  unfold up'
  have : -(-x / n) ≤ y ↔ -y ≤ -x / n := by omega
  rw [this, Int.le_ediv_iff_mul_le h, Int.neg_mul, Int.mul_comm n y]
  omega
theorem lt_up' {x n y : Int} (h : 0 < n) : y < up' x n ↔ n * y < x := by
  have := up_le' (x := x) (y := y) h
  omega
section
variable {p q : Pr} {b : Bd} {n i j : Int}
theorem un_meet (e : Pr) : Meet (unP n i p) (unP n j q) e ↔ Meet p q (n * e.1 + i, n * e.2 + j) := by
  unfold Meet unP
  have a : ∀ x y z k : Int, n * x * z + (y + x * k) = x * (n * z + k) + y := fun x y z k => by
    rw [Int.mul_add, ← Int.mul_assoc, Int.mul_comm x n]
    omega
  show n * p.1 * e.1 + (p.2 + p.1 * i) = n * q.1 * e.2 + (q.2 + q.1 * j) ↔ p.1 * (n * e.1 + i) + p.2 = q.1 * (n * e.2 + j) + q.2
  rw [a, a]
theorem un_low (h : 0 < n) (i0 : 0 ≤ i) (jn : j < n) (l0 : 0 ≤ b.low) : 0 ≤ up' (b.low + i - j) n := by
  have := lt_up' (x := b.low + i - j) (y := -1) h
  omega
theorem un_good (h : 0 < n) (i0 : 0 ≤ i) (iN : i < n) (j0 : 0 ≤ j) (jn : j < n) (l0 : 0 ≤ b.low) (f0 : 0 ≤ b.first) (e : Pr) :
    Good (unP n i p) (unP n j q) (unB n i j b) e ↔ Good p q b (n * e.1 + i, n * e.2 + j) := by
  unfold Good
  rw [un_meet]
  have key : ∀ x k : Int, 0 ≤ n * x + k → k < n → 0 ≤ x := fun x k h1 h2 => by
    rcases Int.lt_or_le x 0 with c | c
    · have : n * x ≤ n * (-1) := Int.mul_le_mul_of_nonneg_left (by omega) (by omega)
      omega
    · exact c
  have ll := un_low (b := b) h i0 jn l0
  unfold Keeps unB
  dsimp only
  have hd : n * e.2 + j - (n * e.1 + i) = n * (e.2 - e.1) + j - i := by rw [Int.mul_sub]; omega
  constructor
  · rintro ⟨m, a, c, d, f⟩
    have a0 := Int.le_trans (mx0_nn _) a
    rw [mx0_le a0, up_le' h] at a
    rw [up_le' h] at c
    refine ⟨m, by omega, by rw [hd]; omega, fun hh z => ?_, fun r z => ?_⟩
    · have := d _ (by rw [z]; rfl)
      rw [Int.le_ediv_iff_mul_le h, Int.mul_comm] at this
      omega
    · have := f _ (by rw [z]; rfl)
      have y0 : 0 ≤ e.2 := by
        rw [← up_le' h] at c
        omega
      rw [lt_mx0 y0, lt_up' h] at this
      omega
  · rintro ⟨m, a, c, d, f⟩
    have x0 : 0 ≤ e.1 := key e.1 i (by omega) iN
    have y0 : 0 ≤ e.2 := key e.2 j (by omega) jn
    refine ⟨m, ?_, ?_, fun hh z => ?_, fun r z => ?_⟩
    · rw [mx0_le x0, up_le' h]
      omega
    · rw [up_le' h]
      rw [hd] at c
      omega
    · cases k : b.high with
      | none => rw [k] at z; cases z
      | some t =>
        rw [k] at z
        cases z
        have := d t k
        rw [hd] at this
        rw [Int.le_ediv_iff_mul_le h, Int.mul_comm]
        omega
    · cases k : b.rounds with
      | none => rw [k] at z; cases z
      | some t =>
        rw [k] at z
        cases z
        have := f t k
        rw [lt_mx0 y0, lt_up' h]
        omega
/-- where a pair lies among the copies -/
theorem un_spot (h : 0 < n) (l0 : 0 ≤ b.low) (f0 : 0 ≤ b.first) (e : Pr) : Good (unP n (e.1 % n) p) (unP n (e.2 % n) q) (unB n (e.1 % n) (e.2 % n) b) (e.1 / n, e.2 / n) ↔ Good p q b e := by
  rw [un_good h (Int.emod_nonneg _ (by omega)) (Int.emod_lt_of_pos _ h) (Int.emod_nonneg _ (by omega)) (Int.emod_lt_of_pos _ h) l0 f0]
  have z : ((n * (e.1 / n, e.2 / n).1 + e.1 % n, n * (e.1 / n, e.2 / n).2 + e.2 % n) : Pr) = e :=
    Prod.ext (by show n * (e.1 / n) + e.1 % n = e.1; exact Int.mul_ediv_add_emod e.1 n) (by show n * (e.2 / n) + e.2 % n = e.2; exact Int.mul_ediv_add_emod e.2 n)
  rw [z]
end
end Met
namespace Met
/-! ### k14: all copies together -/
/-- the copies' numbers in the order in which they are asked -/
def spots (n : Nat) : List Pr := (List.range n).flatMap fun (i : Nat) => (List.range n).map fun (j : Nat) => (((i : Int), (j : Int)) : Pr)
theorem mem_spots {n : Nat} {s : Pr} : s ∈ spots n ↔ 0 ≤ s.1 ∧ s.1 < n ∧ 0 ≤ s.2 ∧ s.2 < n := by
  unfold spots
  rw [List.mem_flatMap]
  constructor
  · rintro ⟨i, hi, h⟩
    obtain ⟨j, hj, rfl⟩ := List.mem_map.mp h
    have := List.mem_range.mp hi
    have := List.mem_range.mp hj
    show 0 ≤ (i : Int) ∧ (i : Int) < n ∧ 0 ≤ (j : Int) ∧ (j : Int) < n
    omega
  · rintro ⟨a, b, c, d⟩
    refine ⟨s.1.toNat, List.mem_range.mpr (by omega), List.mem_map.mpr ⟨s.2.toNat, List.mem_range.mpr (by omega), ?_⟩⟩
    exact Prod.ext (by show ((s.1.toNat : Nat) : Int) = s.1; omega) (by show ((s.2.toNat : Nat) : Int) = s.2; omega)
theorem nodup_of_inj {α β : Type} {f : α → β} : ∀ {l : List α}, l.Nodup → (∀ a ∈ l, ∀ b ∈ l, f a = f b → a = b) → (l.map f).Nodup
  | [], _, _ => List.nodup_nil
  | x :: l, h, i => by
    obtain ⟨h1, h2⟩ := List.nodup_cons.mp h
    rw [List.map_cons]
    refine List.nodup_cons.mpr ⟨fun m => ?_, nodup_of_inj h2 fun a ha b hb => i a (List.mem_cons_of_mem _ ha) b (List.mem_cons_of_mem _ hb)⟩
    obtain ⟨y, hy, z⟩ := List.mem_map.mp m
    rw [i y (List.mem_cons_of_mem _ hy) x List.mem_cons_self z] at hy
    exact h1 hy
/-- the list of all, by the parts' lists -/
theorem parts_list {T : Pr → Pr → Prop} {f : Pr → Pr → Pr} {m : Pr → Int} (hf : ∀ s s' x x', f s x = f s' x' → T s x → T s' x' → s = s' ∧ x = x') (hl : ∀ s, ∃ L : List Pr, L.Nodup ∧ (∀ e, e ∈ L ↔ T s e) ∧ (L.length : Int) = m s) :
    ∀ {l : List Pr}, l.Nodup → ∃ L : List Pr, L.Nodup ∧ (∀ e, e ∈ L ↔ ∃ s ∈ l, ∃ x, T s x ∧ f s x = e) ∧ (L.length : Int) = (l.map m).sum
  | [], _ => ⟨[], List.nodup_nil, fun e => ⟨fun h => absurd h List.not_mem_nil, fun ⟨s, h, _⟩ => absurd h List.not_mem_nil⟩, rfl⟩
  | s :: l, h => by
    obtain ⟨h1, h2⟩ := List.nodup_cons.mp h
    obtain ⟨L, l1, l2, l3⟩ := parts_list hf hl h2
    obtain ⟨M, m1, m2, m3⟩ := hl s
    refine ⟨M.map (f s) ++ L, append_nodup (nodup_of_inj m1 fun a ha b hb z => (hf s s a b z ((m2 a).mp ha) ((m2 b).mp hb)).2) l1 fun e he hm => ?_, fun e => ?_, ?_⟩
    · obtain ⟨a, ha, rfl⟩ := List.mem_map.mp he
      obtain ⟨s', hs', x, hx, z⟩ := (l2 _).mp hm
      rw [(hf s' s x a z hx ((m2 a).mp ha)).1] at hs'
      exact h1 hs'
    · rw [List.mem_append, List.mem_map, l2]
      constructor
      · rintro (⟨a, ha, rfl⟩ | ⟨s', hs', x, hx, z⟩)
        · exact ⟨s, List.mem_cons_self, a, (m2 a).mp ha, rfl⟩
        · exact ⟨s', List.mem_cons_of_mem _ hs', x, hx, z⟩
      · rintro ⟨s', hs', x, hx, z⟩
        rcases List.mem_cons.mp hs' with rfl | hs'
        · exact .inl ⟨x, (m2 x).mpr hx, z⟩
        · exact .inr ⟨s', hs', x, hx, z⟩
    · rw [List.length_append, List.length_map, List.map_cons, List.sum_cons, ← l3, ← m3]
      omega
theorem amount_len {S : Pr → Prop} {t : Told} (a : Spec S t) {L : List Pr} (h : L.Nodup) (g : ∀ e, e ∈ L ↔ S e) : t.amount = some (L.length : Int) := by
  obtain ⟨m, hm⟩ := amount_in a L fun e he => (g e).mpr he
  obtain ⟨M, h1, h2, h3⟩ := list_of a hm
  have l1 := nodup_le h fun e he => (h2 e).mpr ((g e).mp he)
  have l2 := nodup_le h1 fun e he => (g e).mpr ((h2 e).mp he)
  rw [hm, ← h3]
  exact congrArg some (by omega)
theorem pairs_nodup {m : List Nat} (hm : m.Nodup) : ∀ {l : List Nat}, l.Nodup → (l.flatMap fun (i : Nat) => m.map fun (j : Nat) => (((i : Int), (j : Int)) : Pr)).Nodup
  | [], _ => List.nodup_nil
  | i :: l, h => by
    obtain ⟨h1, h2⟩ := List.nodup_cons.mp h
    rw [List.flatMap_cons]
    refine append_nodup (nodup_of_inj hm fun a _ b _ z => by have := congrArg Prod.snd z; dsimp only at this; omega) (pairs_nodup hm h2) fun e he hx => ?_
    obtain ⟨j, _, rfl⟩ := List.mem_map.mp he
    obtain ⟨k, hk, g⟩ := List.mem_flatMap.mp hx
    obtain ⟨j', _, z⟩ := List.mem_map.mp g
    have := congrArg Prod.fst z
    dsimp only at this
    obtain rfl : k = i := by omega
    exact h1 hk
theorem spots_nodup (n : Nat) : (spots n).Nodup := pairs_nodup List.nodup_range List.nodup_range
section
variable {p q : Pr} {b : Bd} {n : Nat}
abbrev unT (p q : Pr) (b : Bd) (n : Nat) (s : Pr) : Told := told (unP n s.1 p) (unP n s.2 q) (unB n s.1 s.2 b)
def unE (n : Nat) (s x : Pr) : Pr := (n * x.1 + s.1, n * x.2 + s.2)
theorem un_nz (h : 0 < n) (nz : p.1 ≠ 0 ∨ q.1 ≠ 0) (s : Pr) : (unP n s.1 p).1 ≠ 0 ∨ (unP n s.2 q).1 ≠ 0 :=
  nz.imp (fun z => Int.mul_ne_zero (by omega) z) (fun z => Int.mul_ne_zero (by omega) z)
theorem un_spec (h : 0 < n) (nz : p.1 ≠ 0 ∨ q.1 ≠ 0) (l0 : 0 ≤ b.low) (f0 : 0 ≤ b.first) {s : Pr} (hs : s ∈ spots n) : Spec (fun x => Good p q b (unE n s x)) (unT p q b n s) := by
  obtain ⟨a, c, d, e⟩ := mem_spots.mp hs
  have z := told_spec (unB n s.1 s.2 b) (un_nz h nz s)
  have y : Good (unP n s.1 p) (unP n s.2 q) (unB n s.1 s.2 b) = fun x => Good p q b (unE n s x) := funext fun x => propext (un_good (by omega) a c d e l0 f0 x)
  rw [y] at z
  exact z
theorem unE_inj {s s' x x' : Pr} (hs : s ∈ spots n) (hs' : s' ∈ spots n) (z : unE n s x = unE n s' x') : s = s' ∧ x = x' := by
  obtain ⟨a, c, d, e⟩ := mem_spots.mp hs
  obtain ⟨a', c', d', e'⟩ := mem_spots.mp hs'
  have one : ∀ u v i j : Int, 0 ≤ i → i < n → 0 ≤ j → j < n → n * u + i = n * v + j → i = j ∧ u = v := fun u v i j h1 h2 h3 h4 h5 => by
    have e1 : (n * u + i) % n = i := by rw [Int.mul_add_emod_self_left, Int.emod_eq_of_lt h1 h2]
    have e2 : (n * v + j) % n = j := by rw [Int.mul_add_emod_self_left, Int.emod_eq_of_lt h3 h4]
    rw [h5, e2] at e1
    refine ⟨e1.symm, Int.eq_of_mul_eq_mul_left (a := (n : Int)) (by omega) (by omega)⟩
  obtain ⟨u1, u2⟩ := one x.1 x'.1 s.1 s'.1 a c a' c' (congrArg Prod.fst z)
  obtain ⟨u3, u4⟩ := one x.2 x'.2 s.2 s'.2 d e d' e' (congrArg Prod.snd z)
  exact ⟨Prod.ext u1 u3, Prod.ext u2 u4⟩
theorem un_all (h : 0 < n) (e : Pr) : ∃ s ∈ spots n, ∃ x, unE n s x = e :=
  ⟨(e.1 % n, e.2 % n), mem_spots.mpr ⟨Int.emod_nonneg _ (by omega), Int.emod_lt_of_pos _ (by omega), Int.emod_nonneg _ (by omega), Int.emod_lt_of_pos _ (by omega)⟩, (e.1 / n, e.2 / n),
    Prod.ext (Int.mul_ediv_add_emod e.1 n) (Int.mul_ediv_add_emod e.2 n)⟩
theorem un_amount (h : 0 < n) (nz : p.1 ≠ 0 ∨ q.1 ≠ 0) (l0 : 0 ≤ b.low) (f0 : 0 ≤ b.first) {m : Pr → Int} (hm : ∀ s ∈ spots n, (unT p q b n s).amount = some (m s)) : (told p q b).amount = some ((spots n).map m).sum := by
  obtain ⟨L, l1, l2, l3⟩ := parts_list (T := fun s x => s ∈ spots n ∧ Good p q b (unE n s x)) (f := unE n) (m := fun s => if s ∈ spots n then m s else 0)
    (fun s s' x x' z t t' => unE_inj t.1 t'.1 z) (fun s => by
      by_cases c : s ∈ spots n
      · obtain ⟨L, a1, a2, a3⟩ := list_of (un_spec h nz l0 f0 c) (hm s c)
        exact ⟨L, a1, fun e => by rw [a2]; exact ⟨fun z => ⟨c, z⟩, fun z => z.2⟩, by rw [if_pos c]; exact a3⟩
      · exact ⟨[], List.nodup_nil, fun e => ⟨fun z => absurd z List.not_mem_nil, fun z => absurd z.1 c⟩, by rw [if_neg c]; rfl⟩) (spots_nodup n)
  have z := amount_len (told_spec b nz) l1 fun e => by
    rw [l2]
    constructor
    · rintro ⟨s, _, x, ⟨_, g⟩, rfl⟩
      exact g
    · intro g
      obtain ⟨s, hs, x, rfl⟩ := un_all h e
      exact ⟨s, hs, x, ⟨hs, g⟩, rfl⟩
  rw [z, l3]
  congr 2
  exact List.map_congr_left fun s hs => if_pos hs
theorem un_endless (h : 0 < n) (nz : p.1 ≠ 0 ∨ q.1 ≠ 0) (l0 : 0 ≤ b.low) (f0 : 0 ≤ b.first) {s : Pr} (hs : s ∈ spots n) (ha : (unT p q b n s).amount = none) : (told p q b).amount = none := by
  cases k : (told p q b).amount with
  | none => rfl
  | some m =>
    obtain ⟨L, l1, l2, l3⟩ := list_of (told_spec b nz) k
    obtain ⟨M, m1, m2, m3⟩ := many_of (un_spec h nz l0 f0 hs) ha (L.length + 1)
    have := nodup_le (nodup_of_inj (f := unE n s) m1 fun a _ c _ z => (unE_inj hs hs z).2) (M := L) fun e he => by
      obtain ⟨x, hx, rfl⟩ := List.mem_map.mp he
      exact (l2 _).mpr (m2 x hx)
    rw [List.length_map] at this
    omega
/-- the part's least distance, as the law makes it the whole's -/
def unD (p q : Pr) (b : Bd) (n : Nat) (s : Pr) : Option Int := (unT p q b n s).near.map fun x => n * (x.2 - x.1) + s.2 - s.1
theorem un_dist0 (h : 0 < n) (nz : p.1 ≠ 0 ∨ q.1 ≠ 0) (l0 : 0 ≤ b.low) (f0 : 0 ≤ b.first) (h0 : (told p q b).near = none) {s : Pr} (hs : s ∈ spots n) : (unT p q b n s).near = none := by
  cases k : (unT p q b n s).near with
  | none => rfl
  | some x => exact absurd ((un_spec h nz l0 f0 hs).near x k).1 ((told_spec b nz).near0 h0 _)
theorem un_dist {e : Pr} (h : 0 < n) (nz : p.1 ≠ 0 ∨ q.1 ≠ 0) (l0 : 0 ≤ b.low) (f0 : 0 ≤ b.first) (h0 : (told p q b).near = some e) :
    (∃ s ∈ spots n, unD p q b n s = some (e.2 - e.1)) ∧ ∀ s ∈ spots n, ∀ k, unD p q b n s = some k → e.2 - e.1 ≤ k := by
  have sp := told_spec b nz
  have le : ∀ s x, Good p q b (unE n s x) → e.2 - e.1 ≤ n * (x.2 - x.1) + s.2 - s.1 := fun s x g => by
    have d : (unE n s x).2 - (unE n s x).1 = n * (x.2 - x.1) + s.2 - s.1 := by
      show n * x.2 + s.2 - (n * x.1 + s.1) = _
      rw [Int.mul_sub]
      omega
    rcases (sp.near e h0).2 _ g with z | z
    · rw [← z, d]
      exact Int.le_refl _
    · have : (kNear e).1 ≤ (kNear (unE n s x)).1 := by
        rcases z with z | ⟨z, _⟩ <;> omega
      have : e.2 - e.1 ≤ (unE n s x).2 - (unE n s x).1 := this
      omega
  have low : ∀ s ∈ spots n, ∀ k, unD p q b n s = some k → e.2 - e.1 ≤ k := fun s hs k hk => by
    unfold unD at hk
    obtain ⟨x, hx, rfl⟩ := Option.map_eq_some_iff.mp hk
    exact le s x ((un_spec h nz l0 f0 hs).near x hx).1
  refine ⟨?_, low⟩
  obtain ⟨s, hs, y, hy⟩ := un_all h e
  have g : Good p q b (unE n s y) := hy ▸ (sp.near e h0).1
  have us := un_spec h nz l0 f0 hs
  cases k : (unT p q b n s).near with
  | none => exact absurd g (us.near0 k y)
  | some x =>
    have hd : unD p q b n s = some (n * (x.2 - x.1) + s.2 - s.1) := by unfold unD; rw [k]; rfl
    refine ⟨s, hs, hd.trans (congrArg some ?_)⟩
    have a := low s hs _ hd
    have c : x.2 - x.1 ≤ y.2 - y.1 := by
      rcases (us.near x k).2 y g with z | z
      · rw [z]; exact Int.le_refl _
      · have : (kNear x).1 ≤ (kNear y).1 := by rcases z with z | ⟨z, _⟩ <;> omega
        exact this
    have d : e.2 - e.1 = n * (y.2 - y.1) + s.2 - s.1 := by
      rw [← hy]
      show n * y.2 + s.2 - (n * y.1 + s.1) = _
      rw [Int.mul_sub]
      omega
    have m : (n : Int) * (x.2 - x.1) ≤ n * (y.2 - y.1) := Int.mul_le_mul_of_nonneg_left c (by omega)
    omega
end
end Met
namespace K14
open PySem L2
open L2.My
open Met
/-- one of some values by a draw -/
theorem pick3 {a b c r : Int} (h0 : 0 ≤ r) (h1 : r < 3) : ∃ v, (v = a ∨ v = b ∨ v = c) ∧ atI [V.int a, V.int b, V.int c] r = some (.int v) := by
  obtain rfl | rfl | rfl : r = 0 ∨ r = 1 ∨ r = 2 := by omega
  · exact ⟨a, .inl rfl, atI_nat (j := 0) rfl⟩
  · exact ⟨b, .inr (.inl rfl), atI_nat (j := 1) rfl⟩
  · exact ⟨c, .inr (.inr rfl), atI_nat (j := 2) rfl⟩
theorem pick2 {a b r : Int} (h0 : 0 ≤ r) (h1 : r < 2) : ∃ v, (v = a ∨ v = b) ∧ atI [V.int a, V.int b] r = some (.int v) := by
  obtain rfl | rfl : r = 0 ∨ r = 1 := by omega
  · exact ⟨a, .inl rfl, atI_nat (j := 0) rfl⟩
  · exact ⟨b, .inr rfl, atI_nat (j := 1) rfl⟩
theorem pickO {b r : Int} (h0 : 0 ≤ r) (h1 : r < 2) : ∃ o : Option Int, (∀ v, o = some v → v = b) ∧ atI [V.non, V.int b] r = some (oV o) := by
  obtain rfl | rfl : r = 0 ∨ r = 1 := by omega
  · exact ⟨none, (fun v e => by cases e), atI_nat (j := 0) rfl⟩
  · exact ⟨some b, fun v e => (Option.some.inj e).symm, atI_nat (j := 1) rfl⟩
/-- places of a middle size -/
structure PM (p q : Pr) : Prop where
  h1 : B 64 p.1
  h2 : B 130 p.2
  h3 : B 64 q.1
  h4 : B 130 q.2
  nz : p.1 ≠ 0 ∨ q.1 ≠ 0
theorem PM.sz {p q : Pr} (h : PM p q) : PSz p q := ⟨h.h1.up, h.h2.up, h.h3.up, h.h4.up, h.nz⟩
theorem B.lt18 {i : Int} (h0 : 0 ≤ i) (h1 : i < 10 ^ 18) : B 60 i := B.draw (by have : (0 : Int) < 10 ^ 18 := by decide
                                                                                omega) h1
section
variable {P : Program} {w : World} {K : PySem.W.Frag} {mg : Str → Option Value} {base : Heap}
/-! ### _law_round -/
def spRound : Sp := fun vs H Q _ => ∃ d, vs = [.ref d] ∧ Dice H d ∧ ∀ r H', 0 ≤ r → r < 10 ^ 18 → Dice H' d → But d H H' → Q (.int r) H'
abbrev lRound : Stmt := top 37
abbrev n_rd : List Str := ["_law_dice_here", "_law_way"]
theorem sl_rd : FnScope n_rd ["_law_dice_here"] (defScope lRound) := ⟨rfl, rfl, rfl, by decide +kernel, rfl, by decide +kernel, by decide +kernel⟩
theorem ok_rd {f fnx fgr : Addr} {fd fdnx fdgr : FuncData} (F : Fun K "_law_round" "_law_round" lRound f fd) (T : Bl mg) (dnx : Dn P w K mg base CX0 "_law_next" ["_law_dice_here", "_law_many"] 1 spNext fnx fdnx) (dgr : Dn P w K mg base CX0 "_law_great" ["_law_dice_here"] 2 spDraw fgr fdgr) : FnOk P w K mg base CX0 3 f fd ["_law_dice_here"] spRound := by
  refine F.ok sl_rd (fun vs H Q E h => ?_) (fun cdv A outer s H vs Q E hr h => ?_)
  · obtain ⟨d, rfl, _⟩ := h
    rfl
  · obtain ⟨d, rfl, D, k⟩ := h
    have hr1 : Room 1 _ := hr.mono (by decide)
    refine ⟨_, pss_cons (ps_set (i := 1) sl_rd.nd rfl (.inl rfl) (pe_call dnx.G hr1 rfl dnx.g dnx.kp dnx.b .nil pass0 (pa_cons (pv 0) (pa_cons pe_int pa_nil)))) (pss_cons (ps_if (pt_cmpR op_eq (pv 1) pe_int (nomark _)) (pss_one (ps_ret (pe_call dnx.G hr1 rfl dnx.g dnx.kp dnx.b .nil pass0 (pa_cons (pv 0) (pa_cons pe_int pa_nil))))) pss_nil) (pss_one (ps_ret (pe_ifExp (pt_cmpR op_eq (pv 1) pe_int (nomark _)) (pe_call dnx.G hr1 rfl dnx.g dnx.kp dnx.b .nil pass0 (pa_cons (pv 0) (pa_cons pe_int pa_nil))) (pe_callB call_abs (by rfl) T.abs (by decide +kernel) (pa_cons (pe_call dgr.G hr rfl dgr.g dgr.kp dgr.b .nil pass0 (pa_cons (pv 0) pa_nil)) pa_nil)))))), ?_⟩
    have e18 : (10 : Int) ^ 18 = 1000000000000000000 := by decide
    refine ⟨_, rfl, d, 3, rfl, by decide, by decide, D, fun r H1 r0 r1 D1 u1 => ?_⟩
    refine ⟨_, rfl, rfl, _, rfl, ite2 (fun _ => ?_) (fun _ => ?_)⟩
    · refine ⟨_, rfl, d, 13, rfl, by decide, by decide, D1, fun x H2 x0 x1 D2 u2 => ?_⟩
      exact k x H2 x0 (by omega) D2 (u1.trans u2)
    · refine ⟨_, rfl, rfl, _, rfl, ite2 (fun _ => ?_) (fun _ => ?_)⟩
      · refine ⟨_, rfl, d, 5000, rfl, by decide, by decide, D1, fun x H2 x0 x1 D2 u2 => ?_⟩
        exact k x H2 x0 (by omega) D2 (u1.trans u2)
      · refine ⟨_, rfl, d, rfl, D1, fun x H2 x0 x1 D2 u2 => ⟨_, rfl, ?_⟩⟩
        exact k _ H2 (by split <;> omega) (by split <;> omega) D2 (u1.trans u2)
/-! ### _law_built -/
def spBuilt : Sp := fun vs H Q _ => ∃ d, vs = [.ref d] ∧ Dice H d ∧ ∀ t H' pa qa ba ea p q b e, Kd d H H' → H' t = some (.tup [.ref pa, .ref qa, .ref ba, .ref ea]) → PairAt H' pa p → PairAt H' qa q → BdAt H' ba b → PairAt H' ea e →
  PM p q → BM b → Good p q b e → B 62 e.1 → B 62 e.2 → Q (.ref t) H'
abbrev lBuilt : Stmt := top 38
abbrev n_bt : List Str := ["_law_dice_here", "_law_steps_here", "_law_begin", "_law_far", "_law_offset", "_law_place", "_law_other", "_law_low", "_law_high", "_law_first", "_law_rounds"]
theorem sl_bt : FnScope n_bt ["_law_dice_here"] (defScope lBuilt) := ⟨rfl, rfl, rfl, by decide +kernel, rfl, by decide +kernel, by decide +kernel⟩
theorem ok_bt {f frd fst fwd fnx : Addr} {fd fdrd fdst fdwd fdnx : FuncData} (F : Fun K "_law_built" "_law_built" lBuilt f fd) (T : Bl mg) (drd : Dn P w K mg base CX0 "_law_round" ["_law_dice_here"] 3 spRound frd fdrd) (dst : Dn P w K mg base CX0 "_law_steps" ["_law_dice_here"] 4 spSteps fst fdst) (dwd : Dn P w K mg base CX0 "_law_whole" ["_law_dice_here"] 3 spDraw fwd fdwd) (dnx : Dn P w K mg base CX0 "_law_next" ["_law_dice_here", "_law_many"] 1 spNext fnx fdnx) : FnOk P w K mg base CX0 5 f fd ["_law_dice_here"] spBuilt := by
  refine F.ok sl_bt (fun vs H Q E h => ?_) (fun cdv A outer s H vs Q E hr h => ?_)
  · obtain ⟨d, rfl, _⟩ := h
    rfl
  · obtain ⟨d, rfl, D, k⟩ := h
    have hr1 : Room 1 _ := hr.mono (by decide)
    have hr3 : Room 3 _ := hr.mono (by decide)
    refine ⟨_, pss_cons (ps_par (i := 1) (j := 2) rfl sl_bt.nd rfl rfl (by decide) rfl rfl (pa_cons (pe_call dst.G hr rfl dst.g dst.kp dst.b .nil pass0 (pa_cons (pv 0) pa_nil)) (pa_cons (pe_call drd.G hr3 rfl drd.g drd.kp drd.b .nil pass0 (pa_cons (pv 0) pa_nil)) pa_nil)) (by rfl)) (pss_cons (ps_par (i := 3) (j := 4) rfl sl_bt.nd rfl rfl (by decide) rfl rfl (pa_cons (pe_call drd.G hr3 rfl drd.g drd.kp drd.b .nil pass0 (pa_cons (pv 0) pa_nil)) (pa_cons (pe_call dwd.G hr3 rfl dwd.g dwd.kp dwd.b .nil pass0 (pa_cons (pv 0) pa_nil)) pa_nil)) (by rfl)) (pss_cons (ps_set (i := 5) sl_bt.nd rfl (.inl rfl) (pe_tup (pa_cons (pe_ix ix_tup (pv 1) pe_int (fun _ _ => rfl)) (pa_cons (pv 4) pa_nil)))) (pss_cons (ps_set (i := 6) sl_bt.nd rfl (.inl rfl) (pe_tup (pa_cons (pe_ix ix_tup (pv 1) pe_int (fun _ _ => rfl)) (pa_cons (pe_op op_sub (pe_op op_add (pe_op op_mulW (pe_ix ix_tup (pv 1) pe_int (fun _ _ => rfl)) (pv 2)) (pv 4)) (pe_op op_mulW (pe_ix ix_tup (pv 1) pe_int (fun _ _ => rfl)) (pe_op op_add (pv 2) (pv 3)))) pa_nil)))) (pss_cons (ps_set (i := 7) sl_bt.nd rfl (.inl rfl) (pe_ix ix_tup (pe_tup (pa_cons pe_int (pa_cons (pv 3) (pa_cons (pe_callB (call_max2 rfl) (by rfl) T.max (by decide +kernel) (pa_cons pe_int (pa_cons (pe_op op_sub (pv 3) (pe_call dnx.G hr1 rfl dnx.g dnx.kp dnx.b .nil pass0 (pa_cons (pv 0) (pa_cons pe_int pa_nil)))) pa_nil))) pa_nil)))) (pe_call dnx.G hr1 rfl dnx.g dnx.kp dnx.b .nil pass0 (pa_cons (pv 0) (pa_cons pe_int pa_nil))) (fun _ _ => rfl))) (pss_cons (ps_set (i := 8) sl_bt.nd rfl (.inl rfl) (pe_ix ix_tup (pe_tup (pa_cons pe_non (pa_cons (pe_op op_add (pv 3) (pe_call dnx.G hr1 rfl dnx.g dnx.kp dnx.b .nil pass0 (pa_cons (pv 0) (pa_cons pe_int pa_nil)))) pa_nil))) (pe_call dnx.G hr1 rfl dnx.g dnx.kp dnx.b .nil pass0 (pa_cons (pv 0) (pa_cons pe_int pa_nil))) (fun _ _ => rfl))) (pss_cons (ps_set (i := 9) sl_bt.nd rfl (.inl rfl) (pe_ix ix_tup (pe_tup (pa_cons pe_int (pa_cons (pe_callB (call_max2 rfl) (by rfl) T.max (by decide +kernel) (pa_cons pe_int (pa_cons (pe_op op_sub (pv 2) (pe_call dnx.G hr1 rfl dnx.g dnx.kp dnx.b .nil pass0 (pa_cons (pv 0) (pa_cons pe_int pa_nil)))) pa_nil))) pa_nil))) (pe_call dnx.G hr1 rfl dnx.g dnx.kp dnx.b .nil pass0 (pa_cons (pv 0) (pa_cons pe_int pa_nil))) (fun _ _ => rfl))) (pss_cons (ps_set (i := 10) sl_bt.nd rfl (.inl rfl) (pe_ix ix_tup (pe_tup (pa_cons pe_non (pa_cons (pe_op op_add (pe_op op_add (pe_op op_add (pv 2) (pv 3)) pe_int) (pe_call dnx.G hr1 rfl dnx.g dnx.kp dnx.b .nil pass0 (pa_cons (pv 0) (pa_cons pe_int pa_nil)))) pa_nil))) (pe_call dnx.G hr1 rfl dnx.g dnx.kp dnx.b .nil pass0 (pa_cons (pv 0) (pa_cons pe_int pa_nil))) (fun _ _ => rfl))) (pss_one (ps_ret (pe_tup (pa_cons (pv 5) (pa_cons (pv 6) (pa_cons (pe_tup (pa_cons (pv 7) (pa_cons (pv 8) (pa_cons (pv 9) (pa_cons (pv 10) pa_nil))))) (pa_cons (pe_tup (pa_cons (pv 2) (pa_cons (pe_op op_add (pv 2) (pv 3)) pa_nil))) pa_nil)))))))))))))), ?_⟩
    refine ⟨_, rfl, d, rfl, D, fun st H1 se k1 es nz bs1 bs2 => ?_⟩
    refine ⟨_, rfl, d, rfl, k1.dice, fun begin H2 g0 g1 D2 u2 => ⟨_, _, rfl, ?_⟩⟩
    refine ⟨_, rfl, d, rfl, D2, fun far H3 f0 f1 D3 u3 => ?_⟩
    refine ⟨_, rfl, d, rfl, D3, fun off H4 o0 o1 D4 u4 => ⟨_, _, rfl, ?_⟩⟩
    have k14 : Kd d H1 H4 := (Kd.ob D2 u2).trans ((Kd.ob D3 u3).trans (.ob D4 u4))
    have es4 := es.tt (k14.tt k1.dice)
    have bg := B.lt18 g0 g1
    have bf := B.lt18 f0 f1
    have bo := B.draw o0 o1
    refine ⟨_, rfl, st, _, 0, _, rfl, rfl, SqT.of es4, atI_nat (j := 0) rfl, _, rfl, n_line, fun pa npa => ?_⟩
    obtain ⟨H5, z5, s5, e5⟩ := mk_at (o := .tup [V.int se.1, V.int off]) npa
    rw [z5]
    have es5 := es4.same s5
    refine ⟨_, rfl, st, _, 1, _, rfl, rfl, SqT.of es5, atI_nat (j := 1) rfl, ?_⟩
    refine ⟨_, rfl, st, _, 0, _, rfl, rfl, SqT.of es5, atI_nat (j := 0) rfl, _, rfl, _, _, rfl, rfl, bs1.ml bg, _, rfl, _, _, rfl, rfl, ?_⟩
    refine ⟨_, rfl, st, _, 1, _, rfl, rfl, SqT.of es5, atI_nat (j := 1) rfl, _, rfl, _, rfl, _, _, rfl, rfl, _, _, rfl, rfl, bs2.ml (bg.add bf), _, _, rfl, rfl, n_line, fun qa nqa => ?_⟩
    obtain ⟨H6, z6, s6, e6⟩ := mk_at (o := .tup [V.int se.2, V.int (se.1 * begin + off - se.2 * (begin + far))]) nqa
    rw [z6]
    have e56 := s6 _ _ e5
    have D6 := Dice.same (Dice.same D4 s5) s6
    have k6 : Kd d H H6 := k1.trans (k14.trans ((Kd.of D4 s5).trans (.of (Dice.same D4 s5) s6)))
    clear z5 z6 k14 es4 es5 s5 s6 e5 k1
    -- low
    refine ⟨_, rfl, _, rfl, _, rfl, d, 9, rfl, by decide, by decide, D6, fun x7 H7 x70 x71 D7 u7 => ?_⟩
    refine ⟨_, _, rfl, rfl, _, _, rfl, n_line, fun c7 nc7 => ?_⟩
    refine ⟨_, rfl, d, 3, rfl, by decide, by decide, Dice.same D7 (grow nc7), fun y7 H8 y70 y71 D8 u8 => ?_⟩
    have k8 : Kd d H6 H8 := (Kd.ob D7 u7).trans ((Kd.of D7 (grow nc7)).trans (.ob D8 u8))
    have ec7 := (Kd.ob D8 u8).but c7 _ (fun z => by
      subst z
      obtain ⟨_, _, _, z, _⟩ := D7
      rw [nc7] at z
      cases z) upd_same
    obtain ⟨low, hl, el⟩ := pick3 (a := 0) (b := far) (c := if far - x7 > 0 then far - x7 else 0) y70 y71
    refine ⟨c7, _, y7, _, rfl, rfl, SqT.of ec7, el, ?_⟩
    have l0 : 0 ≤ low := by
      rcases hl with rfl | rfl | rfl
      · omega
      · omega
      · split <;> omega
    have l1 : low ≤ far := by
      rcases hl with rfl | rfl | rfl
      · omega
      · omega
      · split <;> omega
    clear hl el ec7 nc7 u7 u8
    -- high
    refine ⟨_, rfl, _, rfl, d, 9, rfl, by decide, by decide, D8, fun x9 H9 x90 x91 D9 u9 => ?_⟩
    refine ⟨_, _, rfl, rfl, n_line, fun c9 nc9 => ?_⟩
    refine ⟨_, rfl, d, 2, rfl, by decide, by decide, Dice.same D9 (grow nc9), fun y9 H10 y90 y91 D10 u10 => ?_⟩
    have k10 : Kd d H8 H10 := (Kd.ob D9 u9).trans ((Kd.of D9 (grow nc9)).trans (.ob D10 u10))
    have ec9 := (Kd.ob D10 u10).but c9 _ (fun z => by
      subst z
      obtain ⟨_, _, _, z, _⟩ := D9
      rw [nc9] at z
      cases z) upd_same
    obtain ⟨high, hh, eh⟩ := pickO (b := far + x9) y90 y91
    refine ⟨c9, _, y9, _, rfl, rfl, SqT.of ec9, eh, ?_⟩
    clear eh ec9 nc9 u9 u10
    -- first
    refine ⟨_, rfl, _, rfl, d, 9, rfl, by decide, by decide, D10, fun xb Hb xb0 xb1 Db ub => ?_⟩
    refine ⟨_, _, rfl, rfl, _, _, rfl, n_line, fun cb ncb => ?_⟩
    refine ⟨_, rfl, d, 2, rfl, by decide, by decide, Dice.same Db (grow ncb), fun yb Hc yb0 yb1 Dc uc => ?_⟩
    have kc : Kd d H10 Hc := (Kd.ob Db ub).trans ((Kd.of Db (grow ncb)).trans (.ob Dc uc))
    have ecb := (Kd.ob Dc uc).but cb _ (fun z => by
      subst z
      obtain ⟨_, _, _, z, _⟩ := Db
      rw [ncb] at z
      cases z) upd_same
    obtain ⟨first, hf, ef⟩ := pick2 (a := 0) (b := if begin - xb > 0 then begin - xb else 0) yb0 yb1
    refine ⟨cb, _, yb, _, rfl, rfl, SqT.of ecb, ef, ?_⟩
    have i0 : 0 ≤ first := by
      rcases hf with rfl | rfl
      · omega
      · split <;> omega
    have i1 : first ≤ begin := by
      rcases hf with rfl | rfl
      · omega
      · split <;> omega
    clear hf ef ecb ncb ub uc
    -- rounds
    refine ⟨_, rfl, _, rfl, _, _, rfl, rfl, _, _, rfl, rfl, _, rfl, d, 9, rfl, by decide, by decide, Dc, fun xd Hd xd0 xd1 Dd ud => ?_⟩
    refine ⟨_, _, rfl, rfl, n_line, fun cd ncd => ?_⟩
    refine ⟨_, rfl, d, 2, rfl, by decide, by decide, Dice.same Dd (grow ncd), fun yd He yd0 yd1 De ue => ?_⟩
    have ke : Kd d Hc He := (Kd.ob Dd ud).trans ((Kd.of Dd (grow ncd)).trans (.ob De ue))
    have ecd := (Kd.ob De ue).but cd _ (fun z => by
      subst z
      obtain ⟨_, _, _, z, _⟩ := Dd
      rw [ncd] at z
      cases z) upd_same
    obtain ⟨rounds, hd, ed⟩ := pickO (b := begin + far + 1 + xd) yd0 yd1
    refine ⟨cd, _, yd, _, rfl, rfl, SqT.of ecd, ed, ?_⟩
    clear ed ecd ncd ud ue
    -- the end
    have kall : Kd d H6 He := k8.trans (k10.trans (kc.trans ke))
    have tt := kall.tt D6
    have p1 : PairAt He pa (se.1, off) := tt _ _ e56
    have q1 : PairAt He qa (se.2, se.1 * begin + off - se.2 * (begin + far)) := tt _ _ e6
    clear k8 k10 kc ke tt e56 e6
    refine ⟨_, rfl, _, rfl, _, rfl, _, rfl, _, rfl, _, rfl, n_line, fun ba nba => ?_⟩
    obtain ⟨Hf, zf, sf, ef⟩ := mk_at (o := .tup [V.int low, oV high, V.int first, oV rounds]) nba
    rw [zf]
    refine ⟨_, rfl, _, rfl, _, rfl, _, _, rfl, rfl, n_line, fun ea nea => ?_⟩
    obtain ⟨Hg, zg, sg, eg⟩ := mk_at (o := .tup [V.int begin, V.int (begin + far)]) nea
    rw [zg]
    refine ⟨n_line, fun t nt => ?_⟩
    have st := grow (o := .tup [V.ref pa, V.ref qa, V.ref ba, V.ref ea]) nt
    have sfg := sf.trans (sg.trans st)
    have h18 : (10 : Int) ^ 18 = 1000000000000000000 := by decide
    have bl : B 60 low := bf.le (by omega)
    have bi : B 60 first := bg.le (by omega)
    have b9 : ∀ x : Int, 0 ≤ x → x < 9 → B 60 x := fun x a b => B.small (by omega)
    refine k t _ pa qa ba ea (se.1, off) (se.2, se.1 * begin + off - se.2 * (begin + far)) ⟨low, high, first, rounds⟩ (begin, begin + far) (k6.trans (kall.trans (.of kall.dice sfg))) upd_same (p1.same sfg) (q1.same sfg)
      ((sg.trans st) _ _ ef) (st _ _ eg) ⟨bs1, bo.up, bs2, (((bs1.mul bg).up (m := 126) |>.add (bo.up (m := 126))).sub ((bs2.mul (bg.add bf)).up (m := 127))).up, nz⟩ ?_ ?_ ?_ ?_
    · refine ⟨⟨bl.up, fun h e => ?_, bi.up, fun r e => ?_⟩, l0, i0, fun r e => ?_⟩
      · rw [hh h e]
        exact (bf.add (b9 _ x90 x91)).up
      · rw [hd r e]
        exact (((bg.add bf).add (B.one (n := 61))).add ((b9 _ xd0 xd1).up (m := 62))).up
      · have := hd r e
        omega
    · refine ⟨?_, i1, ?_, fun h e => ?_, fun r e => ?_⟩
      · show se.1 * begin + off = se.2 * (begin + far) + (se.1 * begin + off - se.2 * (begin + far))
        omega
      · show low ≤ begin + far - begin
        omega
      · have := hh h e
        show begin + far - begin ≤ h
        omega
      · have := hd r e
        show begin + far < r
        omega
    · exact bg.up
    · exact (bg.add bf).up
/-! ### _law_drawn -/
def spDrawn : Sp := fun vs H Q _ => ∃ d, vs = [.ref d] ∧ Dice H d ∧ ∀ t H' pa qa ba p q b, Kd d H H' → H' t = some (.tup [.ref pa, .ref qa, .ref ba]) → PairAt H' pa p → PairAt H' qa q → BdAt H' ba b → PM p q → BM b → Q (.ref t) H'
abbrev lDrawn : Stmt := top 39
abbrev n_dr : List Str := ["_law_dice_here", "_law_place", "_law_other", "_law_bounds_here", "_law_pair", "_law_one_here", "_law_two"]
theorem sl_dr : FnScope n_dr ["_law_dice_here"] (defScope lDrawn) := ⟨rfl, rfl, rfl, by decide +kernel, rfl, by decide +kernel, by decide +kernel⟩
theorem ok_dr {f fnx fbt fbd : Addr} {fd fdnx fdbt fdbd : FuncData} (F : Fun K "_law_drawn" "_law_drawn" lDrawn f fd)  (dnx : Dn P w K mg base CX0 "_law_next" ["_law_dice_here", "_law_many"] 1 spNext fnx fdnx) (dbt : Dn P w K mg base CX0 "_law_built" ["_law_dice_here"] 5 spBuilt fbt fdbt) (dbd : Dn P w K mg base CX0 "_law_bounds" ["_law_dice_here", "_law_most"] 2 spBounds fbd fdbd) : FnOk P w K mg base CX0 6 f fd ["_law_dice_here"] spDrawn := by
  refine F.ok sl_dr (fun vs H Q E h => ?_) (fun cdv A outer s H vs Q E hr h => ?_)
  · obtain ⟨d, rfl, _⟩ := h
    rfl
  · obtain ⟨d, rfl, D, k⟩ := h
    have hr1 : Room 1 _ := hr.mono (by decide)
    have hr2 : Room 2 _ := hr.mono (by decide)
    refine ⟨_, pss_cons (ps_if (pt_cmpR op_gt (pe_call dnx.G hr1 rfl dnx.g dnx.kp dnx.b .nil pass0 (pa_cons (pv 0) (pa_cons pe_int pa_nil))) pe_int (nomark _)) (pss_cons (ps_asg (pe_call dbt.G hr rfl dbt.g dbt.kp dbt.b .nil pass0 (pa_cons (pv 0) pa_nil)) (pg_tup rfl (pgs_cons (pg_name (i := 1) sl_dr.nd rfl (.inl rfl)) (pgs_cons (pg_name (i := 2) sl_dr.nd rfl (.inl rfl)) (pgs_cons (pg_name (i := 3) sl_dr.nd rfl (.inl rfl)) (pgs_cons (pg_name (i := 4) sl_dr.nd rfl (.inl rfl)) pgs_nil)))))) (pss_one (ps_ret (pe_tup (pa_cons (pv 1) (pa_cons (pv 2) (pa_cons (pv 3) pa_nil))))))) pss_nil) (pss_cons (ps_par (i := 5) (j := 6) rfl sl_dr.nd rfl rfl (by decide) rfl rfl (pa_cons (pe_op op_sub (pe_call dnx.G hr1 rfl dnx.g dnx.kp dnx.b .nil pass0 (pa_cons (pv 0) (pa_cons pe_int pa_nil))) pe_int) (pa_cons (pe_op op_sub (pe_call dnx.G hr1 rfl dnx.g dnx.kp dnx.b .nil pass0 (pa_cons (pv 0) (pa_cons pe_int pa_nil))) pe_int) pa_nil)) (by rfl)) (pss_cons (ps_set (i := 5) sl_dr.nd rfl (.inl rfl) (pe_ifExp (PW.pt (pw_and (pt_cmpR op_eq (pv 5) pe_int (nomark _)) (pw_and1 (pt_cmpR op_eq (pv 6) pe_int (nomark _))))) pe_int (pv 5))) (pss_one (ps_ret (pe_tup (pa_cons (pe_tup (pa_cons (pv 5) (pa_cons (pe_op op_sub (pe_call dnx.G hr1 rfl dnx.g dnx.kp dnx.b .nil pass0 (pa_cons (pv 0) (pa_cons pe_int pa_nil))) pe_int) pa_nil))) (pa_cons (pe_tup (pa_cons (pv 6) (pa_cons (pe_op op_sub (pe_call dnx.G hr1 rfl dnx.g dnx.kp dnx.b .nil pass0 (pa_cons (pv 0) (pa_cons pe_int pa_nil))) pe_int) pa_nil))) (pa_cons (pe_call dbd.G hr2 rfl dbd.g dbd.kp dbd.b .nil pass0 (pa_cons (pv 0) (pa_cons pe_int pa_nil))) pa_nil)))))))), ?_⟩
    refine ⟨_, rfl, d, 3, rfl, by decide, by decide, D, fun r H1 r0 r1 D1 u1 => ?_⟩
    refine ⟨_, _, rfl, rfl, _, rfl, ite2 (fun _ => ?_) (fun _ => ?_)⟩
    · refine ⟨_, rfl, d, rfl, D1, fun t H2 pa qa ba ea p q b e k2 et ep eq eb ee pm bm _ _ _ => ?_⟩
      refine ⟨t, _, rfl, SqT.of et, rfl, _, _, rfl, _, _, rfl, _, _, rfl, _, _, rfl, rfl, ?_⟩
      refine ⟨_, rfl, _, rfl, _, rfl, n_line, fun t2 nt2 => ?_⟩
      have s3 := grow (o := .tup [V.ref pa, V.ref qa, V.ref ba]) nt2
      exact k t2 _ pa qa ba p q b ((Kd.ob D1 u1).trans (k2.trans (.of k2.dice s3))) upd_same (ep.same s3) (eq.same s3) (s3 _ _ eb) pm bm
    · refine ⟨_, rfl, d, 13, rfl, by decide, by decide, D1, fun x H2 x0 x1 D2 u2 => ⟨_, _, rfl, rfl, ?_⟩⟩
      refine ⟨_, rfl, d, 13, rfl, by decide, by decide, D2, fun y H3 y0 y1 D3 u3 => ⟨_, _, rfl, rfl, ?_⟩⟩
      have k3 := (Kd.ob D1 u1).trans ((Kd.ob D2 u2).trans (.ob D3 u3))
      refine ⟨_, _, rfl, ?_⟩
      try dsimp only
      refine seq_asg (fun v H' => ∃ z : Int, v = .int z ∧ B 10 z ∧ (z ≠ 0 ∨ y - 6 ≠ 0) ∧ H' = H3) (fun Q kq => ?_) ?_
      · refine ⟨_, rfl, rfl, _, rfl, ?_⟩
        by_cases c1 : x - 6 = 0
        · refine iteTe (by simp [c1]) ⟨_, rfl, rfl, _, rfl, ?_⟩
          by_cases c2 : y - 6 = 0
          · exact iteTe (by simp [c2]) (kq _ _ ⟨_, rfl, B.small (by decide), .inl (by decide), rfl⟩)
          · exact iteFe (by simp [c2]) ⟨_, rfl, kq _ _ ⟨_, rfl, B.small (by omega), .inr c2, rfl⟩⟩
        · exact iteFe (by simp [c1]) (iteF ⟨_, rfl, kq _ _ ⟨_, rfl, B.small (by omega), .inl c1, rfl⟩⟩)
      rintro _ _ ⟨z, rfl, bz, nz, rfl⟩
      refine ⟨_, rfl, _, rfl, d, 41, rfl, by decide, by decide, D3, fun g H4 g0 g1 D4 u4 => ⟨_, _, rfl, rfl, n_line, fun pa npa => ?_⟩⟩
      obtain ⟨H5, z5, s5, e5⟩ := mk_at (o := .tup [V.int z, V.int (g - 20)]) npa
      rw [z5]
      have D5 := Dice.same D4 s5
      refine ⟨_, rfl, _, rfl, d, 41, rfl, by decide, by decide, D5, fun j H6 j0 j1 D6 u6 => ⟨_, _, rfl, rfl, n_line, fun qa nqa => ?_⟩⟩
      obtain ⟨H7, z7, s7, e7⟩ := mk_at (o := .tup [V.int (y - 6), V.int (j - 20)]) nqa
      rw [z7]
      have D7 := Dice.same D6 s7
      have k57 : Kd d H5 H7 := (Kd.ob D6 u6).trans (.of D6 s7)
      have p7 : PairAt H7 pa (z, g - 20) := k57.tt D5 _ _ e5
      have q7 : PairAt H7 qa (y - 6, j - 20) := e7
      refine ⟨_, rfl, d, rfl, D7, fun ba H8 b k8 eb bo => ?_⟩
      have t8 := k8.tt D7
      refine ⟨n_line, fun t nt => ?_⟩
      have s9 := grow (o := .tup [V.ref pa, V.ref qa, V.ref ba]) nt
      exact k t _ pa qa ba (z, g - 20) (y - 6, j - 20) b (k3.trans ((Kd.ob D4 u4).trans ((Kd.of D4 s5).trans (k57.trans (k8.trans (.of k8.dice s9)))))) upd_same ((p7.tt t8).same s9) ((q7.tt t8).same s9) (s9 _ _ eb)
        ⟨bz.up, (B.small (by show (g - 20).natAbs < 1024; omega) : B 10 (g - 20)).up, (B.small (by show (y - 6).natAbs < 1024; omega) : B 10 (y - 6)).up, (B.small (by show (j - 20).natAbs < 1024; omega) : B 10 (j - 20)).up, nz⟩ bo
end
end K14
/-! x == y, x != y for an instance x of an own class with __eq__ (and the plain __ne__) -/
namespace L2.My
open PySem PySem.Spec PyProof.Rows
section
variable {M : Model} {prog : Program} {w : World} {A : Around} {E : Value → Shared → Prop} {s : Shared} {K : PySem.W.Frag} {x C f : Addr} {ox : Obj} {od : Option Obj} {b : Value}
theorem ifBound_objNe {args : List Value} {Q : Option Value → Shared → Prop} (X : K.In s.heap) (I : PySem.W.InstAt s.heap x ox C od) (hs : PySem.W.findIn K (.ref C) "__ne__" = some (some (.builtin "object.__ne__")))
    (h : wpAny M A (call (.builtin "object.__ne__") (.ref x :: args)) (fun v => Q (some v)) E s) : wpAny M A (callSpecialIfBound? (.ref x) "__ne__" args) Q E s := by
  simp only [callSpecialIfBound?, bindSpecialIfBound?]
  refine wpAny_holding (wpAny_bind (wpAny_bind (wpAny_bind (I.type.here ((PySem.W.looks_findIn X hs).here ?_)))))
  refine wpAny_bind (wpAny_askSetting (wpAny_ite ?_))
  have fin : wpAny M A (call (.builtin "object.__ne__") ([.ref x] ++ args) >>= fun v => pure (some v)) Q E s := wpAny_bind (wpAny_mono h (fun v s' h' => wpAny_pure h') fun _ _ h' => h')
  split
  · exact wpAny_bind (wpAny_of_eq (F.cmp_object.ne.bind _) (wpAny_pure (by exact fin)))
  · exact wpAny_tryCatch (wpAny_bind (wpAny_of_eq (F.cmp_object.ne.bind _) (wpAny_pure (by exact fin))))
theorem entry_ne {Q : Fin → Shared → Prop} (hu : A.units < cLine) (X : K.In s.heap) (I : PySem.W.InstAt s.heap x ox C od) (hs : PySem.W.findIn K (.ref C) "__eq__" = some (some (.ref f))) (hf : PySem.W.isFn K (.ref f) = true)
    (hcall : wpAny (model prog w) A (call (.ref f) [.ref x, b]) (fun v s' => ∃ c, v = .bool c ∧ Q (.done (.ret (.bool (!c)))) s') E s) : wpAny (model prog w) A (Builtin.«object.__ne__» ⟨[.ref x, b], []⟩) Q E s := by
  unfold Builtin.«object.__ne__»
  repeat (first
    | with_reducible refine wpAny_cRoomFor hu ?_
    | (refine wpAny_bind (m := callSpecialIfBound? (.ref x) (Str.ofString "__eq__") [b])
        (PySem.W.ifBound_K X I hs hf (wpAny_mono hcall (fun r s' hr => by
          obtain ⟨c, rfl, hq⟩ := hr
          repeat (first | exact hq | exact wpAny_pure hq | exact wpAny_truthy_bool hq | (refine wpAny_bind (m := truthy (.bool _)) (wpAny_truthy_bool ?_)) | wp_step)) fun _ _ e => e)))
    | wp_step)
theorem call_objNe {Q : Value → Shared → Prop} (hu : A.units + 1 < cLine) (X : K.In s.heap) (I : PySem.W.InstAt s.heap x ox C od) (hm : PySem.W.mroIn K C (.type "object") = some true) (hs : PySem.W.findIn K (.ref C) "__eq__" = some (some (.ref f))) (hf : PySem.W.isFn K (.ref f) = true)
    (hcall : wpAny (model prog w) A.in1 (call (.ref f) [.ref x, b]) (fun v s' => ∃ c, v = .bool c ∧ Q (.bool (!c)) s') E s) : wpAny (model prog w) A (call (.builtin "object.__ne__") [.ref x, b]) Q E s :=
  wpAny_call (codeAny_call_builtin F.cmp_object.ne.plain F.cmpEntry_ne (PySem.W.check_slot F.cmpKind_ne F.cmpSplit_ne (I.type.andThen (PySem.W.looks_mroIn X hm)) (F.cmpArgs_ne _ _)
    (entry_ne (A := A.in1) hu X I hs hf (wpAny_mono hcall (fun v s' hv => hv) fun _ _ e => e))))
theorem rc_ne {tb : Value} {Q : Value → Shared → Prop} (hu : A.units + 1 < cLine) (X : K.In s.heap) (I : PySem.W.InstAt s.heap x ox C od) (hb : PySem.W.Looks (model prog w) s.heap (typeOf b) tb) (hn : PySem.W.notFirst K C tb = true) (hm : PySem.W.mroIn K C (.type "object") = some true)
    (hne : PySem.W.findIn K (.ref C) "__ne__" = some (some (.builtin "object.__ne__"))) (hs : PySem.W.findIn K (.ref C) "__eq__" = some (some (.ref f))) (hf : PySem.W.isFn K (.ref f) = true)
    (hcall : wpAny (model prog w) A.in1 (call (.ref f) [.ref x, b]) (fun v s' => ∃ c, v = .bool c ∧ Q (.bool (!c)) s') E s) : wpAny (model prog w) A (richCompare .NotEq (.ref x) b) Q E s := by
  have one : wpAny (model prog w) A (tryCompare (.ref x) "__ne__" b) (fun r s' => ∃ v, r = some v ∧ Q v s') E s := by
    unfold tryCompare
    refine wpAny_bind (ifBound_objNe X I hne (call_objNe hu X I hm hs hf (wpAny_mono hcall (fun v s' hv => ?_) fun _ _ e => e)))
    obtain ⟨c, rfl, hq⟩ := hv
    exact ⟨c, rfl, wpAny_pure ⟨_, rfl, hq⟩⟩
  unfold richCompare
  simp only [oneThing_ref]
  refine wpAny_holding (wpAny_bind (wpAny_cRoomFor (by omega) ?_))
  rw [cmpInfo_NotEq]
  dsimp only
  refine wpAny_bind (I.type.here (wpAny_bind (hb.here ?_)))
  split
  · rename_i q
    have e : PySem.W.subIn K tb (.ref C) = some false := by
      rcases Bool.or_eq_true_iff.mp hn with e | e
      · rw [beq_iff_eq.mp e] at q; simp at q
      · exact beq_iff_eq.mp e
    refine wpAny_bind ((PySem.W.looks_subIn X e).here ?_)
    simp only [Bool.false_eq_true, if_false]
    refine wpAny_bind (wpAny_mono one (fun r s' z => ?_) fun _ _ e => e)
    obtain ⟨v, rfl, hq⟩ := z
    exact wpAny_pure hq
  · refine wpAny_bind (wpAny_pure ?_)
    simp only [Bool.false_eq_true, if_false]
    refine wpAny_bind (wpAny_mono one (fun r s' z => ?_) fun _ _ e => e)
    obtain ⟨v, rfl, hq⟩ := z
    exact wpAny_pure hq
end
/-- the other side: an instance of the class, or a tuple -/
def Side (K : PySem.W.Frag) (C : Addr) (H : Hp) (y : V) : Prop := (∃ b dy gs, y = .ref b ∧ H b = some (.ins C dy gs)) ∨ ∃ b ys, y = .ref b ∧ SqT K H b ys
/-- the class's own == -/
structure EqC (K : PySem.W.Frag) (C f : Addr) : Prop where
  hs : PySem.W.findIn K (.ref C) "__eq__" = some (some (.ref f))
  hf : PySem.W.isFn K (.ref f) = true
  ne : PySem.W.findIn K (.ref C) "__ne__" = some (some (.builtin "object.__ne__"))
  hm : PySem.W.mroIn K C (.type "object") = some true
  sT : PySem.W.subIn K (.type "tuple") (.ref C) = some false
section
variable {X : Cx} {n : Nat} {C f : Addr} {fd : FuncData} {ps : List Str} {sp : Sp}
theorem side_looks {pins : List (Addr × Obj)} {σ : St} {H : Hp} {s : Shared} {y : V} {u : Value} (I : Inv X pins σ H s) (c : EqC X.K C f) (r : RelV y u) (h : Side X.K C H y) : ∃ tb, PySem.W.Looks (model X.prog X.w) s.heap (typeOf u) tb ∧ PySem.W.notFirst X.K C tb = true := by
  rcases h with ⟨b, dy, gs, rfl, e⟩ | ⟨b, ys, rfl, e⟩
  · cases r
    obtain ⟨mB, J', _⟩ := ins_get I.hok e
    obtain ⟨od', J', _⟩ := J'.look
    exact ⟨_, J'.type, by simp [PySem.W.notFirst]⟩
  · cases r
    obtain ⟨its, rv, ⟨o, ho, hc, _⟩, _⟩ := I.tuple e
    refine ⟨.type "tuple", fun A Q E s' k q => wpAny_typeOf_ref (k _ _ ho) (by rw [hc]; exact q), ?_⟩
    unfold PySem.W.notFirst
    rw [c.sT]
    simp
def rEqOwn (C : Addr) (sp : Sp) (g : Bool → Bool) : R2 := fun x y H Q => ∃ a dx fs, x = .ref a ∧ H a = some (.ins C dx fs) ∧ Side X.K C H y ∧ sp [.ref a, y] H (fun z H' => ∃ b, z = .bl b ∧ Q (.bl (g b)) H') E0
theorem call_eq (F : FnOk X.prog X.w X.K X.mg X.base CX0 n f fd ps sp) (bd : Binds X.K fd ps []) (hl : ps.length = 2) {A : Around} (hr : Room n A) (hfr : A.frames = X.A.frames) {pins : List (Addr × Obj)} {s : Shared} {σ : St} {H : Hp} {a : Addr} {y : V} {u : Value} {R : Bool → Hp → Prop} (I : Inv X pins σ H s) (ry : RelV y u)
    (q : sp [.ref a, y] H (fun z H' => ∃ b, z = .bl b ∧ R b H') E0) : wpAny (model X.prog X.w) A (call (.ref f) [.ref a, u]) (fun v s' => ∃ c H', v = .bool c ∧ Inv X pins σ H' s' ∧ R c H') X.xe s := by
  have e0 : Env0 X.prog X.w X.K X.mg X.base A X.stack s H := by
    have e := I.env0
    exact ⟨by rw [hfr]; exact e.frames, e.mod, e.bs, e.bsz, e.funs, e.frf, e.hok, e.bare⟩
  refine wpAny_call (codeAny_mono (F.run A X.stack s H ⟨[.ref a, u], []⟩ [.ref a, u] [.ref a, y] _ E0 hr e0 (bd s [.ref a, u] I.kIn (by simp [hl])) (.cons rfl (.cons ry .nil)) q) fun r s' hq => ?_)
  cases r with
  | error e => exact (show False from hq).elim
  | ok fl =>
    cases fl with
    | ret w =>
      obtain ⟨z, H', I', rz, b, ez, qz⟩ := I.after hq
      subst ez
      cases rz
      exact ⟨b, H', rfl, I', qz⟩
    | next => exact False.elim hq
    | brk => exact False.elim hq
    | cont => exact False.elim hq
theorem op_eqOwn (c : EqC X.K C f) (F : FnOk X.prog X.w X.K X.mg X.base CX0 n f fd ps sp) (bd : Binds X.K fd ps []) (hl : ps.length = 2) (hr : Room n X.A) : OpR X (compareOp .Eq) (rEqOwn (X := X) C sp id) := by
  intro pins s σ H x y v u Q I rx ry h
  obtain ⟨a, dx, fs, rfl, ea, sd, q⟩ := h
  cases rx
  obtain ⟨mA, J, _⟩ := ins_get I.hok ea
  obtain ⟨od, J, _⟩ := J.look
  obtain ⟨tb, lk, nf⟩ := side_looks I c ry sd
  obtain ⟨m, hF⟩ := I.fr
  show wpAny _ _ (richCompare .Eq _ _) _ _ _
  refine PySem.W.cmp_K (op := .Eq) hr.units0 hF I.ok.mod.kin J lk nf c.hs c.hf (wpAny_mono (call_eq F bd hl hr rfl (R := fun b H' => Q (.bl b) H') I ry q) (fun r s' z => ?_) fun _ _ e => e)
  obtain ⟨b, H', rfl, I', qz⟩ := z
  exact ⟨.bl b, H', I', rfl, qz⟩
theorem op_neOwn (c : EqC X.K C f) (F : FnOk X.prog X.w X.K X.mg X.base CX0 n f fd ps sp) (bd : Binds X.K fd ps []) (hl : ps.length = 2) (hr : Room (n + 1) X.A) : OpR X (compareOp .NotEq) (rEqOwn (X := X) C sp (fun b => !b)) := by
  intro pins s σ H x y v u Q I rx ry h
  obtain ⟨a, dx, fs, rfl, ea, sd, q⟩ := h
  cases rx
  obtain ⟨mA, J, _⟩ := ins_get I.hok ea
  obtain ⟨od, J, _⟩ := J.look
  obtain ⟨tb, lk, nf⟩ := side_looks I c ry sd
  show wpAny _ _ (richCompare .NotEq _ _) _ _ _
  refine rc_ne (hu_of hr) I.kIn J lk nf c.hm c.ne c.hs c.hf (wpAny_mono (call_eq F bd hl (Room.in1 hr) rfl (R := fun b H' => Q (.bl (!b)) H') I ry q) (fun r s' z => ?_) fun _ _ e => e)
  obtain ⟨b, H', rfl, I', qz⟩ := z
  exact ⟨b, rfl, .bl (!b), H', I', rfl, qz⟩
end
end L2.My
namespace K14
open PySem L2
open L2.My
open Met
theorem TT.put {H : Hp} {l : Addr} {xs : List V} {o : HO} (e : H l = some (.lst xs)) : TT H (upd H l o) := fun b ys h => by
  have n : b ≠ l := by
    intro z
    rw [z, e] at h
    cases h
  rw [upd_ne n]
  exact h
inductive PRow (H : Hp) : List V → List (Int × Int) → Prop
  | nil : PRow H [] []
  | cons {t : Addr} {a b : Int} {vs : List V} {zs : List (Int × Int)} (e : H t = some (.tup [.int a, .int b])) (r : PRow H vs zs) : PRow H (.ref t :: vs) ((a, b) :: zs)
theorem PRow.tt {H H' : Hp} {vs : List V} {zs : List (Int × Int)} (p : PRow H vs zs) (t : TT H H') : PRow H' vs zs := by
  induction p with
  | nil => exact .nil
  | cons e _ ih => exact .cons (t _ _ e) ih
theorem PRow.snoc {H : Hp} {vs : List V} {zs : List (Int × Int)} {t : Addr} {a b : Int} (p : PRow H vs zs) (e : H t = some (.tup [.int a, .int b])) : PRow H (vs ++ [.ref t]) (zs ++ [(a, b)]) := by
  induction p with
  | nil => exact .cons e .nil
  | cons e' _ ih => exact .cons e' ih
theorem PRow.len {H : Hp} {vs : List V} {zs : List (Int × Int)} (p : PRow H vs zs) : vs.length = zs.length := by
  induction p with
  | nil => rfl
  | cons _ _ ih => simp [ih]
abbrev mPeel : Stmt := inClass (top 25) 19
abbrev mUnr : Stmt := inClass (top 25) 20
abbrev mEq : Stmt := inClass (top 25) 16

/-- a method as its callers see it -/
structure Nn (P : Program) (w : World) (K : PySem.W.Frag) (mg : Str → Option Value) (base : Heap) (C : Addr) (x : Str) (ps : List Str) (k : Nat) (sp : Sp) (f : Addr) (fd : FuncData) : Prop where
  G : FnOk P w K mg base CX0 k f fd ps sp
  m : Meth K C x f
  b : Binds K fd ps []
structure Mn (P : Program) (w : World) (K : PySem.W.Frag) (mg : Str → Option Value) (base : Heap) (C fI : Addr) (fdI : FuncData) : Prop where
  g : mg "Meetings" = some (.ref C)
  M : Mk K C fI
  G : FnOk P w K mg base CX0 5 fI fdI pInit (spInit C)
structure UTxt (mg : Str → Option Value) : Prop where
  max : mg "max" = none
section
variable {P : Program} {w : World} {K : PySem.W.Frag} {mg : Str → Option Value} {base : Heap}
/-! ### __eq__ -/
structure QTxt (K : PySem.W.Frag) (mg : Str → Option Value) (C : Addr) : Prop where
  ha : PySem.W.findIn K (.ref C) "__class__" = some (some (.builtin "object.__class__"))
  hn : PySem.W.specialIn K (.builtin "object.__class__") "__get__" = some (some (.builtin "getset_descriptor.__get__"))
  htk : PySem.W.takesIn K (.builtin "object.__class__") = some true
  hm : PySem.W.mroIn K C (.type "object") = some true
  gC : mg "Meetings" = some (.ref C)
  kC : PySem.W.kitOne K (.ref C) (.ref C) = some true
  kT : PySem.W.kitOne K (.type "tuple") (.ref C) = some false
  isi : mg "isinstance" = none
def prD (e : Pr) : PyData := .tuple [.int e.1, .int e.2]
def opD (o : Option Int) : PyData := match o with | none => .none | some i => .int i
def plD (p q : Pr) : PyData := .tuple [prD p, prD q]
def bdD (b : Bd) : PyData := .tuple [.int b.low, opD b.high, .int b.first, opD b.rounds]
def eqM (p q : Pr) (b : Bd) (p' q' : Pr) (b' : Bd) : Bool := PyData.eqv (plD p q) (plD p' q') && PyData.eqv (bdD b) (bdD b')
def spEqM (C : Addr) : Sp := fun vs H Q _ => ∃ x p q b y, vs = [.ref x, y] ∧ MetAt C H x p q b ∧ ((∃ z p' q' b', y = .ref z ∧ MetAt C H z p' q' b' ∧ Q (.bl (eqM p q b p' q' b')) H) ∨ ∃ t xs, y = .ref t ∧ H t = some (.tup xs) ∧ Q (.bl false) H)
theorem tyMet {C x : Addr} {H : Hp} {p q : Pr} {b : Bd} (T : CTxt K C) (I : QTxt K mg C) (m : MetAt C H x p q b) : TyX K H (.ref x) (.ref C) := by
  obtain ⟨dx, ta, ba, vl, vn, vs, vt, vr, t, e, o⟩ := m
  exact .base (.ins e T.cl I.ha I.hn I.htk I.hm)
theorem pl_dp {H : Hp} {t a c : Addr} {p q : Pr} (e : H t = some (.tup [.ref a, .ref c])) (ep : PairAt H a p) (eq : PairAt H c q) : Dp K H (.ref t) (plD p q) :=
  .tup (SqT.of e) (.cons (.tup (SqT.of ep) (.cons (.int _) (.cons (.int _) .nil))) (.cons (.tup (SqT.of eq) (.cons (.int _) (.cons (.int _) .nil))) .nil))
theorem opD_dp {H : Hp} (o : Option Int) : Dp K H (oV o) (opD o) := by
  cases o with
  | none => exact .non
  | some i => exact .int i
theorem bd_dp {H : Hp} {t : Addr} {b : Bd} (e : BdAt H t b) : Dp K H (.ref t) (bdD b) := .tup (SqT.of e) (.cons (.int _) (.cons (opD_dp _) (.cons (.int _) (.cons (opD_dp _) .nil))))
theorem opD_lay (o : Option Int) : (opD o).canLay0 = true ∧ (opD o).depth = 0 := by
  cases o <;> simp [opD, PyData.canLay0, PyData.depth]
theorem pl_shaped (p q : Pr) : SeqAt.shaped (plD p q) = true := by
  simp [plD, prD, SeqAt.shaped, PyData.canLay0, PyData.canLayAll0, PyData.depth, PyData.depthAll]
theorem bd_shaped (b : Bd) : SeqAt.shaped (bdD b) = true := by
  simp [bdD, SeqAt.shaped, PyData.canLay0, PyData.canLayAll0, PyData.depth, PyData.depthAll, opD_lay]
theorem eqM_refl (p q : Pr) (b : Bd) : eqM p q b p q b = true := by
  unfold eqM
  have h1 := pl_shaped p q
  have h2 := bd_shaped b
  unfold SeqAt.shaped at h1 h2
  rw [Bool.and_eq_true] at h1 h2
  rw [PySem.SeqAt.eqv_refl _ h1.1, PySem.SeqAt.eqv_refl _ h2.1]
  rfl
theorem scEqM : FnScope ["self", "other"] ["self", "other"] (defScope mEq) := ⟨rfl, rfl, rfl, by decide +kernel, rfl, by decide +kernel, by decide +kernel⟩
theorem ok_eqM {f C : Addr} {fd : FuncData} (F : Fun K "__eq__" "Meetings.__eq__" mEq f fd) (T : CTxt K C) (I : QTxt K mg C) : FnOk P w K mg base CX0 1 f fd ["self", "other"] (spEqM C) := by
  refine F.ok scEqM (fun vs H Q E h => ?_) (fun cdv A outer s H vs Q E hr h => ?_)
  · obtain ⟨x, p, q, b, y, rfl, _⟩ := h
    rfl
  · obtain ⟨x, p, q, b, y, rfl, met, h⟩ := h
    refine ⟨_, pss_one (ps_ret (pe_and (pe_callB call_isi (by rfl) I.isi (by decide +kernel) (pa_cons (pv 1) (pa_cons (pe_glob (v := .ref C) rfl I.gC rfl) pa_nil)))
      (pe_and (pe_cmpR (op_eqD hr.units) (pe_fld (pv 0) rfl) (pe_fld (pv 1) rfl) (nomark _)) (pe_one (pe_cmpR (op_eqD hr.units) (pe_fld (pv 0) rfl) (pe_fld (pv 1) rfl) (nomark _)))))), ?_⟩
    rcases h with ⟨z, p', q', b', rfl, mz, k⟩ | ⟨t, xs, rfl, et, k⟩
    · refine ⟨_, rfl, _, _, _, _, _, rfl, ClsV.own _, tyMet T I mz, I.kC, _, rfl, iteT ?_⟩
      obtain ⟨dx, ta, ba, vl, vn, vs, vt, vr, t, ex, o⟩ := met
      obtain ⟨dz, tz, bz, zl, zn, zs, zt, zr, u, ez, oz⟩ := mz
      obtain ⟨pa, qa, e1, e2, e3⟩ := o.pl
      obtain ⟨pz, qz, z1, z2, z3⟩ := oz.pl
      refine ⟨_, rfl, x, C, dx, _, _, rfl, ex, T.cl, T.nP, rfl, _, rfl, z, C, dz, _, _, rfl, ez, T.cl, T.nP, rfl, _, _, pl_dp e1 e2 e3, pl_dp z1 z2 z3, pl_shaped _ _, pl_shaped _ _, _, rfl, ?_⟩
      unfold eqM at k
      cases c : PyData.eqv (plD p q) (plD p' q') with
      | false =>
        rw [c] at k
        exact iteF k
      | true =>
        rw [c, Bool.true_and] at k
        exact iteT ⟨_, rfl, x, C, dx, _, _, rfl, ex, T.cl, T.nB, rfl, _, rfl, z, C, dz, _, _, rfl, ez, T.cl, T.nB, rfl, _, _, bd_dp o.bd, bd_dp oz.bd, bd_shaped _, bd_shaped _, k⟩
    · exact ⟨_, rfl, _, _, _, _, _, rfl, ClsV.own _, .base (.tup et), I.kT, _, rfl, iteF k⟩

/-! ### a pair of the form (step, offset + step * by) -/
theorem made_of {C : Addr} {H : Hp} {a b : Addr} {p q : Pr} {bd : Bd} {R : Addr → Hp → Prop} (ep : PairAt H a p) (eq : PairAt H b q) (ps : PSz p q) (bo : BOk bd) (k : ∀ x H', Same H H' → MetAt C H' x p q bd → R x H') :
    ∀ x dx, H x = none → H dx = none → dx ≠ x → spInit C [.ref x, .ref a, .ref b, .int bd.low, oV bd.high, .int bd.first, oV bd.rounds] (upd (upd H dx (.own x)) x (.ins C dx [])) (fun v H3 => v = .non ∧ R x H3) E0 := by
  intro x dx nx ndx ne
  have s0 : Same H (upd (upd H dx (.own x)) x (.ins C dx [])) := fun y o e => by
    rw [upd_ne (ne_of_none e nx), upd_ne (ne_of_none e ndx)]
    exact e
  exact ⟨H, x, dx, a, b, p, q, bd, rfl, s0, nx, upd_same, ep.same s0, eq.same s0, ps, bo, fun H' s' m => ⟨rfl, k x H' s' m⟩⟩
/-! ### _law_one -/
def spOne : Sp := fun vs H Q _ => ∃ n : Int, vs = [.int n] ∧ ∀ H', Same H H' → Q (.bl true) H'
/-! ### peeled -/
def spPeel (C : Addr) : Sp := fun vs H Q _ => ∃ x p q b n, vs = [.ref x, .int n] ∧ MetAt C H x p q b ∧ PSz p q ∧ BOk b ∧ 0 ≤ n ∧ B 200 n ∧ PSz (peelP n p) (peelP n q) ∧ ∀ y H', Same H H' → MetAt C H' y (peelP n p) (peelP n q) (peelB n b) → Q (.ref y) H'
theorem peelB_ok {b : Bd} {n : Int} (h : BOk b) (n0 : 0 ≤ n) (bn : B 200 n) : BOk (peelB n b) := by
  have le : ∀ {i : Int}, 0 ≤ i → B 300 i → B 300 (mx0 (i - n)) := fun {i} h0 hb => hb.le (by unfold mx0; split <;> omega)
  refine ⟨⟨h.bb.low, h.bb.high, le h.first h.bb.first, fun r e => ?_⟩, h.low, mx0_nn _, fun r e => ?_⟩
  · obtain ⟨r', hr, rfl⟩ := Option.map_eq_some_iff.mp e
    exact le (h.rounds r' hr) (h.bb.rounds r' hr)
  · obtain ⟨r', hr, rfl⟩ := Option.map_eq_some_iff.mp e
    exact mx0_nn _
abbrev n_pd : List Str := ["self", "by", "low", "high", "first", "rounds", "moved", "left", "step", "offset"]
theorem sl_pd : FnScope n_pd ["self", "by"] (defScope mPeel) := ⟨rfl, rfl, rfl, by decide +kernel, rfl, by decide +kernel, by decide +kernel⟩
theorem ok_pd {f fco : Addr} {fd fdco : FuncData} (F : Fun K "peeled" "Meetings.peeled" mPeel f fd) {C fI : Addr} {fdI : FuncData} (T : UTxt mg) (X : CTxt K C) (nM : Mn P w K mg base C fI fdI) (g3 : List Value → List Value → List Value) (kb3 : KBn K fdI pInit 3 ["low", "high", "first", "rounds"] g3 gV3) (dco : Dn P w K mg base CX0 "check_counter" ["value"] 3 (spCounter K) fco fdco) : FnOk P w K mg base CX0 7 f fd ["self", "by"] (spPeel C) := by
  refine F.ok sl_pd (fun vs H Q E h => ?_) (fun cdv A outer s H vs Q E hr h => ?_)
  · obtain ⟨x, p, q, b, n, rfl, _⟩ := h
    rfl
  · obtain ⟨x, p, q, b, n, rfl, met, ps, bo, n0, bn, pz, k⟩ := h
    have hr3 : Room 3 _ := hr.mono (by decide)
    refine ⟨_, pss_cons (ps_expr (pe_call dco.G hr3 rfl dco.g dco.kp dco.b .nil pass0 (pa_cons (pv 1) pa_nil))) (pss_cons (ps_asg (pe_fld (pv 0) rfl) (pg_tup rfl (pgs_cons (pg_name (i := 2) sl_pd.nd rfl (.inl rfl)) (pgs_cons (pg_name (i := 3) sl_pd.nd rfl (.inl rfl)) (pgs_cons (pg_name (i := 4) sl_pd.nd rfl (.inl rfl)) (pgs_cons (pg_name (i := 5) sl_pd.nd rfl (.inl rfl)) pgs_nil)))))) (pss_cons (ps_setLc (i := 6) (own := [("step", 8), ("offset", 9)]) (g := gTup K 2 (gCons (gName 8) (gCons (gName 9) gNil))) (tt := tYes) (by rfl) sl_pd.nd rfl rfl (sw_true rfl rfl rfl (by decide +kernel)) (pi_tup (pe_fld (pv 0) rfl)) (blkOk_by (own := [("step", 8), ("offset", 9)]) (N := n_pd) (sc := defScope mPeel) (by decide +kernel)) (fun _ _ _ _ _ => pg_tup rfl (pgs_cons (pg_name (i := 8) sl_pd.nd rfl (Or.inl rfl)) (pgs_cons (pg_name (i := 9) sl_pd.nd rfl (Or.inl rfl)) pgs_nil))) (fun _ _ _ _ _ => pts_nil) (fun _ _ _ _ _ => pe_tup (pa_cons (pv 8) (pa_cons (pe_op op_add (pv 9) (pe_op op_mulW (pv 8) (pv 1))) pa_nil)))) (pss_cons (ps_set (i := 7) sl_pd.nd rfl (.inl rfl) (pe_ifExp (pt_cmpR op_isN (pv 5) pe_non (nomark _)) pe_non (pe_callB (call_max2 rfl) (by rfl) T.max (by decide +kernel) (pa_cons pe_int (pa_cons (pe_op op_sub (pv 5) (pv 1)) pa_nil))))) (pss_one (ps_ret (pe_makeK (n := 2) nM.M nM.G hr rfl nM.g kb3 pass0 (pa_cons (pe_ix ix_list (pv 6) pe_int (fun _ _ => rfl)) (pa_cons (pe_ix ix_list (pv 6) pe_int (fun _ _ => rfl)) pa_nil)) (pk_cons (pv 2) (pk_cons (pv 3) (pk_cons (pe_callB (call_max2 rfl) (by rfl) T.max (by decide +kernel) (pa_cons pe_int (pa_cons (pe_op op_sub (pv 4) (pv 1)) pa_nil))) (pk_cons (pv 7) pk_nil)))))))))), ?_⟩
    have mt := met
    obtain ⟨dx, ta, ba, vl, vn, vs, vt, vr, t, ex, o⟩ := mt
    obtain ⟨pa, qa, et, ep, eq⟩ := o.pl
    refine ⟨_, rfl, n, rfl, bn.up, n0, ?_⟩
    refine ⟨_, rfl, x, C, dx, _, _, rfl, ex, X.cl, X.nB, rfl, ba, _, rfl, SqT.of o.bd, rfl, _, _, rfl, _, _, rfl, _, _, rfl, _, _, rfl, rfl, ?_⟩
    refine ⟨_, rfl, x, C, dx, _, _, rfl, ex, X.cl, X.nP, rfl, ta, rfl, ⟨_, SqT.of et⟩, fun D nD => lc_tup (xs := [V.ref pa, V.ref qa]) (fun i H' => ∃ acc, Acc H D acc H' ∧ PRow H' acc ([peelP n p, peelP n q].take i)) ⟨[], Acc.start nD, .nil⟩ (fun i H' _ ⟨_, a, _⟩ => SqT.of (a.1 _ _ et)) ?_ ?_⟩
    · rintro i v H1 hi ⟨acc, ac, pr⟩
      obtain ⟨c, r, rfl, er, hr1, hr2, hz⟩ : ∃ c r, v = .ref c ∧ PairAt H c r ∧ B 300 r.1 ∧ B 300 r.2 ∧ [peelP n p, peelP n q][i]? = some (peelP n r) := by
        match i, hi with
        | 0, hi => exact ⟨pa, p, (Option.some.inj hi).symm, ep, ps.h1, ps.h2, rfl⟩
        | 1, hi => exact ⟨qa, q, (Option.some.inj hi).symm, eq, ps.h3, ps.h4, rfl⟩
      have er1 := ac.1 _ _ er
      refine ⟨c, _, rfl, SqT.of er1, rfl, _, _, rfl, _, _, rfl, rfl, rfl, _, rfl, _, rfl, _, rfl, _, rfl, _, _, rfl, rfl, hr1.ml bn, _, _, rfl, rfl, n_line, fun u nu => ?_⟩
      obtain ⟨H2, z2, s2, e2⟩ := mk_at (o := .tup [V.int r.1, V.int (r.2 + r.1 * n)]) nu
      rw [z2]
      have ac2 := ac.on s2
      refine ⟨acc, ac2.2.2, ?_, acc ++ [.ref u], ac2.put, ?_⟩
      · have l1 := pr.len
        have l2 : (List.take i [peelP n p, peelP n q]).length ≤ 2 := List.length_take_le' ..
        exact Nat.lt_of_le_of_lt (by omega) (show 1000 < sizeLine by decide)
      · rw [take_step hz]
        exact ((pr.tt (.of s2)).snoc e2).tt (TT.put ac2.2.2)
    · rintro H1 ⟨acc, ac, pr⟩
      obtain ⟨pb, qb, rfl, epb, eqb⟩ : ∃ pb qb, acc = [V.ref pb, V.ref qb] ∧ PairAt H1 pb (peelP n p) ∧ PairAt H1 qb (peelP n q) := by
        cases pr with
        | cons e1 r =>
          cases r with
          | cons e2 r2 =>
            cases r2
            exact ⟨_, _, rfl, e1, e2⟩
      unfold gName
      dsimp only
      refine seq_asg (fun v H' => v = oV (b.rounds.map fun r => mx0 (r - n)) ∧ H' = H1) (fun Q kq => ?_) ?_
      · refine ⟨_, rfl, rfl, _, rfl, ?_⟩
        cases hro : b.rounds with
        | none => exact iteTe rfl (kq _ _ ⟨by rw [hro]; rfl, rfl⟩)
        | some r => exact iteFe (by simp [oV]) ⟨_, rfl, _, rfl, _, _, rfl, rfl, _, _, rfl, kq _ _ ⟨by rw [hro]; rfl, rfl⟩⟩
      rintro _ _ ⟨rfl, rfl⟩
      refine ⟨_, rfl, D, _, 0, _, rfl, rfl, SqL.of ac.2.2, atI_nat (j := 0) rfl, _, rfl, D, _, 1, _, rfl, rfl, SqL.of ac.2.2, atI_nat (j := 1) rfl, _, rfl, _, rfl, _, rfl, _, rfl, _, _, rfl, rfl, _, _, rfl, _, rfl, rfl, rfl, ?_⟩
      exact made_of epb eqb pz (peelB_ok bo n0 bn) fun y H' s' m => k y H' (ac.1.trans s') m
end
end K14
namespace K14
open PySem L2
open L2.My
open Met
theorem ediv_sz {n : Nat} {x k : Int} (h : B n x) : B n (x / k) := h.le (Int.natAbs_ediv_le_natAbs ..)
theorem up_sz {n : Nat} {x k : Int} (h : B n x) : B n (up' x k) := by
  unfold up'
  exact (ediv_sz h.neg).neg
theorem mx0_sz {n : Nat} {x : Int} (h : B n x) : B n (mx0 x) := h.le (by unfold mx0; split <;> omega)
theorem sm5 {n : Nat} {i : Int} (h0 : 0 ≤ i) (h1 : i < 6) (l : 3 ≤ n := by omega) : B n i := by
  refine B.up (n := 3) ?_ l
  unfold B
  omega
section
variable {p q : Pr} {b : Bd} {n : Nat} {i j : Int}
theorem un_sz (pm : PM p q) (h0 : 0 < n) (hn : n ≤ 5) (i0 : 0 ≤ i) (i1 : i < n) (j0 : 0 ≤ j) (j1 : j < n) : PSz (unP n i p) (unP n j q) := by
  have bn : B 3 (n : Int) := sm5 (by omega) (by omega)
  have bi : B 3 i := sm5 i0 (by omega)
  have bj : B 3 j := sm5 j0 (by omega)
  exact ⟨(bn.mul pm.h1).up, (pm.h2.add ((pm.h1.mul bi).up (m := 130))).up, (bn.mul pm.h3).up, (pm.h4.add ((pm.h3.mul bj).up (m := 130))).up, un_nz h0 pm.nz (i, j)⟩
theorem unB_ok (bm : BM b) (h0 : 0 < n) (hn : n ≤ 5) (i0 : 0 ≤ i) (i1 : i < n) (j0 : 0 ≤ j) (j1 : j < n) : BOk (unB n i j b) := by
  have bi : B 64 i := sm5 i0 (by omega)
  have bj : B 64 j := sm5 j0 (by omega)
  refine ⟨⟨(up_sz ((bm.bb.low.add bi).sub bj.up)).up, fun r e => ?_, (mx0_sz (up_sz (bm.bb.first.sub bi))).up, fun r e => ?_⟩, un_low (by omega) i0 j1 bm.l0, mx0_nn _, fun r e => ?_⟩
  · obtain ⟨r', hr, rfl⟩ := Option.map_eq_some_iff.mp e
    exact (ediv_sz (((bm.bb.high r' hr).add bi).sub bj.up)).up
  · obtain ⟨r', hr, rfl⟩ := Option.map_eq_some_iff.mp e
    exact (mx0_sz (up_sz ((bm.bb.rounds r' hr).sub bj))).up
  · obtain ⟨r', hr, rfl⟩ := Option.map_eq_some_iff.mp e
    exact mx0_nn _
end
/-- None if x is None else e -/
theorem tIf_opt {k : Nat} {o : Option Int} {f : Int → Int} {te : TE} {σ : L2.St} {H : Hp} {Q : VK} (hv : ∀ Q : VK, Q (oV o) H → tVar k σ H Q) (h2 : ∀ r, o = some r → ∀ Q : VK, Q (.int (f r)) H → te σ H Q) (h : Q (oV (o.map f)) H) :
    tIf (tTest (tOp (fun x y H Q => y = V.non ∧ Q (V.bl (decide (x = V.non))) H) (tVar k) (tC V.non))) (tC V.non) te σ H Q := by
  unfold tIf tTest tOp tC
  refine hv _ ?_
  refine ⟨rfl, _, rfl, ?_⟩
  cases o with
  | none => exact iteTe rfl h
  | some r => exact iteFe (by simp [oV]) (h2 r rfl _ h)
section
variable {P : Program} {w : World} {K : PySem.W.Frag} {mg : Str → Option Value} {base : Heap}
/-! ### unrolled -/
def spUnr (C : Addr) : Sp := fun vs H Q _ => ∃ (x : Addr) (p q : Pr) (b : Bd) (n : Nat) (i j : Int), vs = [.ref x, .int n, .int i, .int j] ∧ MetAt C H x p q b ∧ PM p q ∧ BM b ∧ 0 < n ∧ n ≤ 5 ∧ 0 ≤ i ∧ i < n ∧ 0 ≤ j ∧ j < n ∧ ∀ y H', Same H H' → MetAt C H' y (unP n i p) (unP n j q) (unB n i j b) → Q (.ref y) H'
abbrev n_un : List Str := ["self", "copies", "one", "two", "copy", "step", "offset", "other_step", "other_offset", "low", "high", "first", "rounds"]
theorem sl_un : FnScope n_un ["self", "copies", "one", "two"] (defScope mUnr) := ⟨rfl, rfl, rfl, by decide +kernel, rfl, by decide +kernel, by decide +kernel⟩
theorem ok_un {f fwi : Addr} {fd fdwi : FuncData} (F : Fun K "unrolled" "Meetings.unrolled" mUnr f fd) {C fI : Addr} {fdI : FuncData} (T : UTxt mg) (X : CTxt K C) (nM : Mn P w K mg base C fI fdI) (g3 : List Value → List Value → List Value) (kb3 : KBn K fdI pInit 3 ["low", "high", "first", "rounds"] g3 gV3) {tl : Tok} (cap : mg "MAX_COPIES" = some (.int 24 tl)) (dwi : Dn P w K mg base CX0 "is_wide" ["value"] 2 (spWideI K) fwi fdwi) : FnOk P w K mg base CX0 7 f fd ["self", "copies", "one", "two"] (spUnr C) := by
  refine F.ok sl_un (fun vs H Q E h => ?_) (fun cdv A outer s H vs Q E hr h => ?_)
  · obtain ⟨x, p, q, b, n, i, j, rfl, _⟩ := h
    rfl
  · obtain ⟨x, p, q, b, n, i, j, rfl, met, pm, bm, n0, n5, i0, i1, j0, j1, k⟩ := h
    have hr2 : Room 2 _ := hr.mono (by decide)
    refine ⟨_, pss_cons (ps_if (PW.pt (pw_or (pt_not (pt_val (pe_call dwi.G hr2 rfl dwi.g dwi.kp dwi.b .nil pass0 (pa_cons (pv 1) pa_nil)))) (pw_or1 (pt_not (pt_chain op_le op_le pe_int (pv 1) (pe_glob (v := .int 24) rfl cap ⟨_, rfl⟩)))))) pss_never pss_nil) (pss_cons (ps_for PassesOwn.never rfl (pi_tup (pe_tup (pa_cons (pv 2) (pa_cons (pv 3) pa_nil)))) (pg_name (i := 4) sl_un.nd rfl (.inl rfl)) (pss_one (ps_if (PW.pt (pw_or (pt_not (pt_val (pe_call dwi.G hr2 rfl dwi.g dwi.kp dwi.b .nil pass0 (pa_cons (pv 4) pa_nil)))) (pw_or1 (pt_not (pt_chain op_le op_lt pe_int (pv 4) (pv 1)))))) pss_never pss_nil))) (pss_cons (ps_asg (pe_fld (pv 0) rfl) (pg_tup rfl (pgs_cons (pg_tup rfl (pgs_cons (pg_name (i := 5) sl_un.nd rfl (.inl rfl)) (pgs_cons (pg_name (i := 6) sl_un.nd rfl (.inl rfl)) pgs_nil))) (pgs_cons (pg_tup rfl (pgs_cons (pg_name (i := 7) sl_un.nd rfl (.inl rfl)) (pgs_cons (pg_name (i := 8) sl_un.nd rfl (.inl rfl)) pgs_nil))) pgs_nil)))) (pss_cons (ps_asg (pe_fld (pv 0) rfl) (pg_tup rfl (pgs_cons (pg_name (i := 9) sl_un.nd rfl (.inl rfl)) (pgs_cons (pg_name (i := 10) sl_un.nd rfl (.inl rfl)) (pgs_cons (pg_name (i := 11) sl_un.nd rfl (.inl rfl)) (pgs_cons (pg_name (i := 12) sl_un.nd rfl (.inl rfl)) pgs_nil)))))) (pss_one (ps_ret (pe_makeK (n := 2) nM.M nM.G hr rfl nM.g kb3 pass0 (pa_cons (pe_tup (pa_cons (pe_op op_mulW (pv 1) (pv 5)) (pa_cons (pe_op op_add (pv 6) (pe_op op_mulW (pv 5) (pv 2))) pa_nil))) (pa_cons (pe_tup (pa_cons (pe_op op_mulW (pv 1) (pv 7)) (pa_cons (pe_op op_add (pv 8) (pe_op op_mulW (pv 7) (pv 3))) pa_nil))) pa_nil)) (pk_cons (pe_un un_neg (pe_op op_fdivW (pe_op op_sub (pe_op op_sub (pv 3) (pv 2)) (pv 9)) (pv 1))) (pk_cons (pe_ifExp (pt_cmpR op_isN (pv 10) pe_non (nomark _)) pe_non (pe_op op_fdivW (pe_op op_sub (pe_op op_add (pv 10) (pv 2)) (pv 3)) (pv 1))) (pk_cons (pe_callB (call_max2 rfl) (by rfl) T.max (by decide +kernel) (pa_cons pe_int (pa_cons (pe_un un_neg (pe_op op_fdivW (pe_op op_sub (pv 2) (pv 11)) (pv 1))) pa_nil))) (pk_cons (pe_ifExp (pt_cmpR op_isN (pv 12) pe_non (nomark _)) pe_non (pe_callB (call_max2 rfl) (by rfl) T.max (by decide +kernel) (pa_cons pe_int (pa_cons (pe_un un_neg (pe_op op_fdivW (pe_op op_sub (pv 3) (pv 12)) (pv 1))) pa_nil)))) pk_nil)))))))))), ?_⟩
    have mt := met
    obtain ⟨dx, ta, ba, vl, vn, vs, vt, vr, t, ex, o⟩ := mt
    obtain ⟨pa, qa, et, ep, eq⟩ := o.pl
    have bn : B 3 (n : Int) := sm5 (by omega) (by omega)
    have bi : B 3 i := sm5 i0 (by omega)
    have bj : B 3 j := sm5 j0 (by omega)
    refine ⟨_, rfl, n, rfl, bn.up, _, rfl, iteF ⟨_, rfl, _, _, rfl, rfl, _, rfl, iteTe (decide_eq_true (by omega)) ⟨_, _, rfl, rfl, _, rfl, iteFe (by simp; omega) ?_⟩⟩⟩
    refine ⟨_, rfl, _, rfl, n_line, fun u nu => ?_⟩
    obtain ⟨H1, z1, s1, e1⟩ := mk_at (o := .tup [V.int i, V.int j]) nu
    rw [z1]
    have q1 : up' (b.low + i - j) n = -((j - i - b.low) / n) := by
      unfold up'
      congr 2
      omega
    have q2 : up' (b.first - i) n = -((i - b.first) / n) := by
      unfold up'
      congr 2
      omega
    have q3 : ∀ r : Int, up' (r - j) n = -((j - r) / n) := fun r => by
      unfold up'
      congr 2
      omega
    have eb : unB n i j b = ⟨-((j - i - b.low) / n), b.high.map fun h => (h + i - j) / n, mx0 (-((i - b.first) / n)), b.rounds.map fun r => mx0 (-((j - r) / n))⟩ := by
      unfold unB
      simp only [q1, q2, q3]
    have uo := unB_ok bm n0 n5 i0 i1 j0 j1
    have us := un_sz pm n0 n5 i0 i1 j0 j1
    rw [eb] at uo k
    clear q1 q2 q3 eb
    refine ⟨u, rfl, ⟨_, SqT.of e1⟩, for_tup (xs := [V.int i, V.int j]) (fun _ σ H' => H' = H1 ∧ ∃ v4, σ = [some (.ref x), some (.int n), some (.int i), some (.int j), v4, none, none, none, none, none, none, none, none]) ⟨rfl, none, rfl⟩ (fun _ _ H' _ h => by rw [h.1]; exact SqT.of e1) ?_ ?_⟩
    · rintro m v σ H2 hm ⟨rfl, v4, rfl⟩
      obtain ⟨z, rfl, z0, z1⟩ : ∃ z : Int, v = .int z ∧ 0 ≤ z ∧ z < n := by
        match m, hm with
        | 0, hm => exact ⟨i, (Option.some.inj hm).symm, i0, i1⟩
        | 1, hm => exact ⟨j, (Option.some.inj hm).symm, j0, j1⟩
      refine ⟨_, rfl, z, rfl, sm5 z0 (by omega), _, rfl, iteF ⟨_, rfl, _, _, rfl, rfl, _, rfl, iteTe (decide_eq_true z0) ⟨_, rfl, _, _, rfl, rfl, _, rfl, iteFe (by simp; omega) ?_⟩⟩⟩
      exact ⟨rfl, _, rfl⟩
    · rintro σ H2 ⟨rfl, v4, rfl⟩
      have o1 := o.bd.same s1
      have ex1 := s1 _ _ ex
      refine ⟨_, rfl, x, C, dx, _, _, rfl, ex1, X.cl, X.nP, rfl, ta, _, rfl, SqT.of (s1 _ _ et), rfl, _, _, rfl, ⟨pa, _, rfl, SqT.of (ep.same s1), rfl, _, _, rfl, _, _, rfl, rfl, ?_⟩⟩
      refine ⟨_, _, rfl, qa, _, rfl, SqT.of (eq.same s1), rfl, _, _, rfl, _, _, rfl, rfl, rfl, ?_⟩
      refine ⟨_, rfl, x, C, dx, _, _, rfl, ex1, X.cl, X.nB, rfl, ba, _, rfl, SqT.of o1, rfl, _, _, rfl, _, _, rfl, _, _, rfl, _, _, rfl, rfl, ?_⟩
      refine ⟨_, rfl, _, rfl, _, _, rfl, rfl, bn.ml pm.h1, _, rfl, _, rfl, _, rfl, _, _, rfl, rfl, pm.h1.ml bi, _, _, rfl, rfl, n_line, fun pb npb => ?_⟩
      obtain ⟨H3, z3, s3, e3⟩ := mk_at (o := .tup [V.int (n * p.1), V.int (p.2 + p.1 * i)]) npb
      rw [z3]
      refine ⟨_, rfl, _, rfl, _, _, rfl, rfl, bn.ml pm.h3, _, rfl, _, rfl, _, rfl, _, _, rfl, rfl, pm.h3.ml bj, _, _, rfl, rfl, n_line, fun qb nqb => ?_⟩
      obtain ⟨H4, z4, s4, e4⟩ := mk_at (o := .tup [V.int (n * q.1), V.int (q.2 + q.1 * j)]) nqb
      rw [z4]
      refine ⟨_, rfl, _, rfl, _, _, rfl, rfl, _, rfl, _, _, rfl, rfl, _, rfl, _, _, rfl, rfl, bn.dw (by omega), _, rfl, ?_⟩
      refine tIf_opt (o := b.high) (f := fun h => (h + i - j) / n) (fun Q q => ⟨_, rfl, q⟩) (fun r hr Q q => ⟨_, rfl, _, rfl, r, i, (by rw [hr]; rfl), rfl, _, rfl, _, _, rfl, rfl, _, rfl, _, _, rfl, rfl, bn.dw (by omega), q⟩) ?_
      refine ⟨_, rfl, _, rfl, _, _, rfl, rfl, _, rfl, _, _, rfl, rfl, bn.dw (by omega), _, rfl, _, _, rfl, ?_⟩
      refine tIf_opt (o := b.rounds) (f := fun r => mx0 (-((j - r) / n))) (fun Q q => ⟨_, rfl, q⟩) (fun r hr Q q => ⟨_, rfl, _, rfl, j, r, rfl, (by rw [hr]; rfl), _, rfl, _, _, rfl, rfl, bn.dw (by omega), _, rfl, _, _, rfl, q⟩) ?_
      refine ⟨rfl, rfl, ?_⟩
      have ep4 : PairAt H4 pb (unP n i p) := s4 _ _ e3
      have eq4 : PairAt H4 qb (unP n j q) := e4
      exact made_of ep4 eq4 us uo fun y H' s' m => k y H' (s1.trans (s3.trans (s4.trans s'))) m
end
end K14
namespace K14
open PySem L2
open L2.My
open Met
theorem after_sz {l : Line} (z : LSz l) {s : Pr} {k : Int} (h1 : B 301 s.1) (h2 : B 301 s.2) (hk : B 711 k) : B 1100 (after l.base s k).1 ∧ B 1100 (after l.base s k).2 := by
  unfold after
  exact ⟨((z.b1.up (m := 1012)).add (h1.mul hk)).up, ((z.b2.up (m := 1012)).add (h2.mul hk)).up⟩
theorem B0 {n : Nat} : B n 0 := by
  unfold B
  exact Nat.pow_pos (by decide)
/-- how large the first pairs are -/
theorem nth_sz {p q : Pr} {b : Bd} (ps : PSz p q) (bo : BOk b) {i : Nat} (hi : i < 1000) {e : Pr} (h : (told p q b).nth i = some e) : B 1100 e.1 ∧ B 1100 e.2 := by
  cases hs : spanB p q b with
  | none =>
    rw [(told_none hs).1] at h
    cases h
  | some sp =>
    obtain ⟨l, hl, hsp⟩ := span_line hs
    have et := (told_some (b := b) hl hsp).1
    rw [show (told p q b).nth = rowAt l (rowOf l sp) by rw [et]; rfl] at h
    have lsz := line_sz ps.h1 ps.h2 ps.h3 ps.h4 hl
    obtain ⟨z1, z2⟩ := span_sz lsz bo.bb hsp
    have g1 : B 710 (sp.1.getD 0) := by
      cases c : sp.1 with
      | none => exact B0
      | some a => exact z1 a c
    have g2 : B 710 (sp.2.getD 0) := by
      cases c : sp.2 with
      | none => exact B0
      | some a => exact z2 a c
    have bi : B 10 (i : Int) := by
      unfold B
      have : (2 : Nat) ^ 10 = 1024 := by decide
      omega
    unfold rowAt at h
    split at h
    · cases h
      unfold rowOf
      split
      · exact after_sz lsz lsz.s1.up lsz.s2.up (g1.add (n := 710) bi.up)
      · exact after_sz lsz lsz.s1.neg.up lsz.s2.neg.up (g2.neg.add (n := 710) bi.up)
    · cases h
theorem near_sz {p q : Pr} {b : Bd} (ps : PSz p q) (bo : BOk b) {e : Pr} (h : (told p q b).near = some e) : B 1100 e.1 ∧ B 1100 e.2 := by
  cases hs : spanB p q b with
  | none =>
    have z := (told_spec b ps.nz).near e h
    have y := (told_spec b ps.nz).each.all e z.1
    obtain ⟨n, hn⟩ := y
    rw [(told_none hs).1] at hn
    cases hn
  | some sp =>
    obtain ⟨l, hl, hsp⟩ := span_line hs
    have et := (told_some (b := b) hl hsp).1
    have lsz := line_sz ps.h1 ps.h2 ps.h3 ps.h4 hl
    obtain ⟨z1, z2⟩ := span_sz lsz bo.bb hsp
    rw [et] at h
    obtain ⟨k, hk, rfl⟩ := Option.map_eq_some_iff.mp (show ((if up (l.step.2 - l.step.1) l.step.2 = true then sp.1 else sp.2).map (after l.base l.step ·)) = some e from h)
    refine after_sz lsz lsz.s1.up lsz.s2.up ?_
    split at hk
    · exact (z1 k hk).up
    · exact (z2 k hk).up
theorem eqv_self {d : PyData} (h : SeqAt.shaped d = true) : PyData.eqv d d = true := by
  unfold SeqAt.shaped at h
  rw [Bool.and_eq_true] at h
  exact PySem.SeqAt.eqv_refl _ h.1
theorem pr_shaped (e : Pr) : SeqAt.shaped (prD e) = true := by
  simp [prD, SeqAt.shaped, PyData.canLay0, PyData.canLayAll0, PyData.depth, PyData.depthAll]
theorem pr_dp {K : PySem.W.Frag} {H : Hp} {a : Addr} {e : Pr} (h : PairAt H a e) : Dp K H (.ref a) (prD e) := .tup (SqT.of h) (.cons (.int _) (.cons (.int _) .nil))
theorem Rows.tt {H H' : Hp} {t : Nat → Option Pr} {m : Nat} {ys : List V} (r : Rows H t m ys) (s : TT H H') : Rows H' t m ys := ⟨fun i v h => by
  obtain ⟨a, e, r1, r2, r3⟩ := r.at_ i v h
  exact ⟨a, e, r1, r2, r3.tt s⟩, r.len, r.full⟩
/-- the generator method, and those with two underscores, as their callers see them -/
structure En (P : Program) (w : World) (K : PySem.W.Frag) (mg : Str → Option Value) (base : Heap) (C : Addr) (f : Addr) (fd : FuncData) : Prop where
  G : GFnN P w K mg base 2 f fd ["self"] (spEach C)
  m : Meth K C "each" f
  b : Binds K fd ["self"] []
structure Bn (P : Program) (w : World) (K : PySem.W.Frag) (mg : Str → Option Value) (base : Heap) (C : Addr) (g : Addr) (fd : FuncData) : Prop where
  G : FnOk P w K mg base CX0 1 g fd ["self"] (spGT C)
  b : Binds K fd ["self"] []
  hs : PySem.W.findIn K (.ref C) "__bool__" = some (some (.ref g))
  hf : PySem.W.isFn K (.ref g) = true
structure Hn (P : Program) (w : World) (K : PySem.W.Frag) (mg : Str → Option Value) (base : Heap) (C : Addr) (g : Addr) (fd : FuncData) : Prop where
  G : FnOk P w K mg base CX0 3 g fd ["self", "x"] (spHas C)
  b : Binds K fd ["self", "x"] []
  hs : PySem.W.findIn K (.ref C) "__contains__" = some (some (.ref g))
  hf : PySem.W.isFn K (.ref g) = true
structure Qn (P : Program) (w : World) (K : PySem.W.Frag) (mg : Str → Option Value) (base : Heap) (C : Addr) (g : Addr) (fd : FuncData) : Prop where
  G : FnOk P w K mg base CX0 1 g fd ["self", "other"] (spEqM C)
  b : Binds K fd ["self", "other"] []
  c : EqC K C g
structure PTxt (mg : Str → Option Value) : Prop where
  max : mg "max" = none
  zip : mg "zip" = none
  range : mg "range" = none
section
variable {P : Program} {w : World} {K : PySem.W.Frag} {mg : Str → Option Value} {base : Heap}
/-! ### _law_bounds_of, _law_up -/
def spBOf (C : Addr) : Sp := fun vs H Q _ => ∃ x p q b, vs = [.ref x] ∧ MetAt C H x p q b ∧ ∀ t H', Same H H' → BdAt H' t b → Q (.ref t) H'
abbrev lBndOf : Stmt := top 40
abbrev n_bo : List Str := ["_law_met"]
theorem sl_bo : FnScope n_bo ["_law_met"] (defScope lBndOf) := ⟨rfl, rfl, rfl, by decide +kernel, rfl, by decide +kernel, by decide +kernel⟩
theorem ok_bo {f  : Addr} {fd  : FuncData} (F : Fun K "_law_bounds_of" "_law_bounds_of" lBndOf f fd) {C aLo gLo aHi gHi aFi gFi aRo gRo : Addr} {fdLo fdHi fdFi fdRo : FuncData} (X : CTxt K C) (rLo : Pn P w K mg base C "low" (spGB C (fun b => .int b.low)) aLo gLo fdLo) (rHi : Pn P w K mg base C "high" (spGB C (fun b => oV b.high)) aHi gHi fdHi) (rFi : Pn P w K mg base C "first" (spGB C (fun b => .int b.first)) aFi gFi fdFi) (rRo : Pn P w K mg base C "rounds" (spGB C (fun b => oV b.rounds)) aRo gRo fdRo)  : FnOk P w K mg base CX0 3 f fd ["_law_met"] (spBOf C) := by
  refine F.ok sl_bo (fun vs H Q E h => ?_) (fun cdv A outer s H vs Q E hr h => ?_)
  · obtain ⟨x, p, q, b, rfl, _⟩ := h
    rfl
  · obtain ⟨x, p, q, b, rfl, met, k⟩ := h
    refine ⟨_, pss_one (ps_ret (pe_tup (pa_cons (pe_prop (pv 0) X.cl rLo.h rLo.G hr rLo.b .nil pass0 rfl) (pa_cons (pe_prop (pv 0) X.cl rHi.h rHi.G hr rHi.b .nil pass0 rfl) (pa_cons (pe_prop (pv 0) X.cl rFi.h rFi.G hr rFi.b .nil pass0 rfl) (pa_cons (pe_prop (pv 0) X.cl rRo.h rRo.G hr rRo.b .nil pass0 rfl) pa_nil)))))), ?_⟩
    obtain ⟨dx, ta, bx, vl, vn, vs, vt, vr, tp, ex, o'⟩ := id met
    refine ⟨_, rfl, x, dx, _, rfl, ex, x, p, q, b, rfl, met, _, rfl, x, dx, _, rfl, ex, x, p, q, b, rfl, met, _, rfl, x, dx, _, rfl, ex, x, p, q, b, rfl, met, _, rfl, x, dx, _, rfl, ex, x, p, q, b, rfl, met, n_line, fun t nt => ?_⟩
    exact k t _ (grow nt) upd_same
def spUp : Sp := fun vs H Q _ => ∃ (i : Int) (n : Nat), vs = [.int i, .int n] ∧ 0 < n ∧ n ≤ 5 ∧ Q (.int (up' i n)) H
abbrev lUp : Stmt := top 41
abbrev n_up : List Str := ["_law_number", "_law_parts"]
theorem sl_up : FnScope n_up ["_law_number", "_law_parts"] (defScope lUp) := ⟨rfl, rfl, rfl, by decide +kernel, rfl, by decide +kernel, by decide +kernel⟩
theorem ok_up {f  : Addr} {fd  : FuncData} (F : Fun K "_law_up" "_law_up" lUp f fd)   : FnOk P w K mg base CX0 1 f fd ["_law_number", "_law_parts"] spUp := by
  refine F.ok sl_up (fun vs H Q E h => ?_) (fun cdv A outer s H vs Q E hr h => ?_)
  · obtain ⟨i, n, rfl, _⟩ := h
    rfl
  · obtain ⟨i, n, rfl, n0, n5, k⟩ := h
    refine ⟨_, pss_one (ps_ret (pe_un un_neg (pe_op op_fdivW (pe_un un_neg (pv 0)) (pv 1)))), ?_⟩
    have bn : B 3 (n : Int) := sm5 (by omega) (by omega)
    exact ⟨_, rfl, _, rfl, _, rfl, _, _, rfl, rfl, bn.dw (by omega), _, rfl, k⟩
end
end K14
namespace K14
open PySem L2
open L2.My
open Met
section
variable {P : Program} {w : World} {K : PySem.W.Frag} {mg : Str → Option Value} {base : Heap}
/-! ### _law_peels -/
def spPeels (C : Addr) : Sp := fun vs H Q _ => ∃ pa qa ba x d p q b, vs = [.ref pa, .ref qa, .ref ba, .ref x, .ref d] ∧ PairAt H pa p ∧ PairAt H qa q ∧ BdAt H ba b ∧ MetAt C H x p q b ∧ PM p q ∧ BM b ∧ Dice H d ∧ ∀ H', Kd d H H' → Q (.bl true) H'
abbrev lPeels : Stmt := top 42
abbrev n_pl : List Str := ["_law_place", "_law_other", "_law_bounds_here", "_law_met", "_law_dice_here", "_law_by", "_law_low", "_law_high", "_law_first", "_law_rounds", "_law_peeled", "_law_left", "_law_pair", "_law_gone", "_law_more"]
theorem sl_pl : FnScope n_pl ["_law_place", "_law_other", "_law_bounds_here", "_law_met", "_law_dice_here"] (defScope lPeels) := ⟨rfl, rfl, rfl, by decide +kernel, rfl, by decide +kernel, by decide +kernel⟩
theorem ok_pl {f frd fbo ftr fnx : Addr} {fd fdrd fdbo fdtr fdnx : FuncData} (F : Fun K "_law_peels" "_law_peels" lPeels f fd) {C fP fE gB gH gQ aP gP aO gO aD gD : Addr} {fdP fdE fdB fdH fdQ fdp fdO fdD : FuncData} (T : PTxt mg) (X : CTxt K C) (mP : Nn P w K mg base C "peeled" ["self", "by"] 7 (spPeel C) fP fdP) (nE : En P w K mg base C fE fdE) (nB : Bn P w K mg base C gB fdB) (nH : Hn P w K mg base C gH fdH) (nQ : Qn P w K mg base C gQ fdQ) (rP : Pn P w K mg base C "place" (spGP C) aP gP fdp) (rO : Pn P w K mg base C "other" (spGO C) aO gO fdO) (rD : Pn P w K mg base C "distance" (spGD C) aD gD fdD) (drd : Dn P w K mg base CX0 "_law_round" ["_law_dice_here"] 3 spRound frd fdrd) (dbo : Dn P w K mg base CX0 "_law_bounds_of" ["_law_met"] 3 (spBOf C) fbo fdbo) (dtr : Dn P w K mg base CX0 "_law_is_truth" ["_law_value", "_law_due"] 1 spTruth ftr fdtr) (dnx : Dn P w K mg base CX0 "_law_next" ["_law_dice_here", "_law_many"] 1 spNext fnx fdnx) : FnOk P w K mg base CX0 8 f fd ["_law_place", "_law_other", "_law_bounds_here", "_law_met", "_law_dice_here"] (spPeels C) := by
  refine F.ok sl_pl (fun vs H Q E h => ?_) (fun cdv A outer s H vs Q E hr h => ?_)
  · obtain ⟨pa, qa, ba, x, d, p, q, b, rfl, _⟩ := h
    rfl
  · obtain ⟨pa, qa, ba, x, d, p, q, b, rfl, ep, eq, eb, met, pm, bm, D, k⟩ := h
    have hr1 : Room 1 _ := hr.mono (by decide)
    have hr2 : Room 2 _ := hr.mono (by decide)
    have hr3 : Room 3 _ := hr.mono (by decide)
    have hr4 : Room 4 _ := hr.mono (by decide)
    refine ⟨_, pss_cons (ps_set (i := 5) sl_pl.nd rfl (.inl rfl) (pe_call drd.G hr3 rfl drd.g drd.kp drd.b .nil pass0 (pa_cons (pv 4) pa_nil))) (pss_cons (ps_asg (pv 2) (pg_tup rfl (pgs_cons (pg_name (i := 6) sl_pl.nd rfl (.inl rfl)) (pgs_cons (pg_name (i := 7) sl_pl.nd rfl (.inl rfl)) (pgs_cons (pg_name (i := 8) sl_pl.nd rfl (.inl rfl)) (pgs_cons (pg_name (i := 9) sl_pl.nd rfl (.inl rfl)) pgs_nil)))))) (pss_cons (ps_set (i := 10) sl_pl.nd rfl (.inl rfl) (pe_meth (pv 3) X.cl mP.m mP.G hr mP.b .nil pass0 (pa_cons (pv 5) pa_nil))) (pss_cons (ps_set (i := 11) sl_pl.nd rfl (.inl rfl) (pe_ifExp (pt_cmpR op_isN (pv 9) pe_non (nomark _)) pe_non (pe_callB (call_max2 rfl) (by rfl) T.max (by decide +kernel) (pa_cons pe_int (pa_cons (pe_op op_sub (pv 9) (pv 5)) pa_nil))))) (pss_cons (ps_if (PW.pt (pw_or (pt_cmpR ((op_neD hr.units)) (pe_prop (pv 10) X.cl rP.h rP.G hr2 rP.b .nil pass0 rfl) (pe_tup (pa_cons (pe_ix ix_tup (pv 0) pe_int (fun _ _ => rfl)) (pa_cons (pe_op op_add (pe_ix ix_tup (pv 0) pe_int (fun _ _ => rfl)) (pe_op op_mulW (pe_ix ix_tup (pv 0) pe_int (fun _ _ => rfl)) (pv 5))) pa_nil))) (nomark _)) (pw_or1 (pt_cmpR ((op_neD hr.units)) (pe_prop (pv 10) X.cl rO.h rO.G hr2 rO.b .nil pass0 rfl) (pe_tup (pa_cons (pe_ix ix_tup (pv 1) pe_int (fun _ _ => rfl)) (pa_cons (pe_op op_add (pe_ix ix_tup (pv 1) pe_int (fun _ _ => rfl)) (pe_op op_mulW (pe_ix ix_tup (pv 1) pe_int (fun _ _ => rfl)) (pv 5))) pa_nil))) (nomark _))))) (pss_one (ps_ret pe_bl)) pss_nil) (pss_cons (ps_if (pt_cmpR ((op_neD hr.units)) (pe_call dbo.G hr3 rfl dbo.g dbo.kp dbo.b .nil pass0 (pa_cons (pv 10) pa_nil)) (pe_tup (pa_cons (pv 6) (pa_cons (pv 7) (pa_cons (pe_callB (call_max2 rfl) (by rfl) T.max (by decide +kernel) (pa_cons pe_int (pa_cons (pe_op op_sub (pv 8) (pv 5)) pa_nil))) (pa_cons (pv 11) pa_nil))))) (nomark _)) (pss_one (ps_ret pe_bl)) pss_nil) (pss_cons (ps_for PassesOwn.never rfl (pi_list (pe_zipN (blkOk_by (own := [("_law_pair", 12)]) (N := n_pl) (sc := defScope lPeels) (by decide +kernel)) pe_int (pgn_meth0 (pv 3) X.cl nE.m nE.G hr2 nE.b) hr4 (by rfl) T.zip (by rfl) T.range (fun _ _ => rfl) (fun _ _ => rfl))) (pg_name (i := 12) sl_pl.nd rfl (.inl rfl)) (pss_cons (ps_set (i := 13) sl_pl.nd rfl (.inl rfl) (pe_tup (pa_cons (pe_op op_sub (pe_ix ix_tup (pv 12) pe_int (fun _ _ => rfl)) (pv 5)) (pa_cons (pe_op op_sub (pe_ix ix_tup (pv 12) pe_int (fun _ _ => rfl)) (pv 5)) pa_nil)))) (pss_one (ps_if (pt_not (pt_val (pe_call dtr.G hr1 rfl dtr.g dtr.kp dtr.b .nil pass0 (pa_cons (pe_cmpR ((op_inOwn nH.hs nH.hf nH.G nH.b rfl hr3 pass0)) (pv 13) (pv 10) (by rfl)) (pa_cons (pe_cmpR op_ge (pe_ix ix_tup (pv 12) pe_int (fun _ _ => rfl)) (pv 5) (nomark _)) pa_nil))))) (pss_one (ps_ret pe_bl)) pss_nil)))) (pss_cons (ps_for PassesOwn.never rfl (pi_list (pe_zipN (blkOk_by (own := [("_law_pair", 12)]) (N := n_pl) (sc := defScope lPeels) (by decide +kernel)) pe_int (pgn_meth0 (pv 10) X.cl nE.m nE.G hr2 nE.b) hr4 (by rfl) T.zip (by rfl) T.range (fun _ _ => rfl) (fun _ _ => rfl))) (pg_name (i := 12) sl_pl.nd rfl (.inl rfl)) (pss_one (ps_if (pt_cmpR ((op_notInOwn nH.hs nH.hf nH.G nH.b rfl hr3 pass0)) (pe_tup (pa_cons (pe_op op_add (pe_ix ix_tup (pv 12) pe_int (fun _ _ => rfl)) (pv 5)) (pa_cons (pe_op op_add (pe_ix ix_tup (pv 12) pe_int (fun _ _ => rfl)) (pv 5)) pa_nil))) (pv 3) (by rfl)) (pss_one (ps_ret pe_bl)) pss_nil))) (pss_cons (ps_if (PW.pt (pw_and (pt_truthR (pv 10) (tru_own nB.hs nB.hf nB.G nB.b rfl hr1 pass0) (fun _ => rfl)) (pw_and1 (PW.pt (pw_or (pt_cmpR op_isN (pe_prop (pv 3) X.cl rD.h rD.G hr2 rD.b .nil pass0 rfl) pe_non (nomark _)) (pw_or1 (pt_cmpR op_lt (pe_prop (pv 10) X.cl rD.h rD.G hr2 rD.b .nil pass0 rfl) (pe_prop (pv 3) X.cl rD.h rD.G hr2 rD.b .nil pass0 rfl) (nomark _)))))))) (pss_one (ps_ret pe_bl)) pss_nil) (pss_cons (ps_set (i := 14) sl_pl.nd rfl (.inl rfl) (pe_call dnx.G hr1 rfl dnx.g dnx.kp dnx.b .nil pass0 (pa_cons (pv 4) (pa_cons pe_int pa_nil)))) (pss_one (ps_ret (pe_and (pe_cmpR ((op_eqOwn nQ.c nQ.G nQ.b rfl hr1)) (pe_meth (pv 10) X.cl mP.m mP.G hr mP.b .nil pass0 (pa_cons (pv 14) pa_nil)) (pe_meth (pv 3) X.cl mP.m mP.G hr mP.b .nil pass0 (pa_cons (pe_op op_add (pv 5) (pv 14)) pa_nil)) (nomark _)) (pe_one (pe_cmpR ((op_eqOwn nQ.c nQ.G nQ.b rfl hr1)) (pe_meth (pv 3) X.cl mP.m mP.G hr mP.b .nil pass0 (pa_cons pe_int pa_nil)) (pv 3) (nomark _))))))))))))))), ?_⟩
    have ps := pm.sz
    have bo := bm.ok
    refine ⟨_, rfl, d, rfl, D, fun n H1 n0 n1 D1 u1 => ?_⟩
    have bn := B.lt18 n0 n1
    have k1 := Kd.ob D1 u1
    have t1 := k1.tt D
    have ep1 := ep.tt t1
    have eq1 := eq.tt t1
    have eb1 := eb.tt t1
    have met1 := met.kd k1 D
    have pz : PSz (peelP n p) (peelP n q) := ⟨pm.h1.up, (pm.h2.add ((pm.h1.mul bn).up (m := 130))).up, pm.h3.up, (pm.h4.add ((pm.h3.mul bn).up (m := 130))).up, pm.nz⟩
    have bp : BOk (peelB n b) := peelB_ok bo n0 bn.up
    obtain ⟨dx, _, _, _, _, _, _, _, _, ex, _⟩ := id met1
    refine ⟨_, rfl, ba, _, rfl, SqT.of eb1, rfl, _, _, rfl, _, _, rfl, _, _, rfl, _, _, rfl, rfl, ?_⟩
    refine ⟨_, rfl, x, dx, _, rfl, ex, rfl, _, rfl, x, p, q, b, n, rfl, met1, ps, bo, n0, bn.up, pz, fun y H2 s2 mety => ?_⟩
    refine tIf_opt (o := b.rounds) (f := fun r => mx0 (r - n)) (fun Q q => ⟨_, rfl, q⟩) (fun r hr Q q => ⟨_, rfl, _, rfl, r, n, (by rw [hr]; rfl), rfl, _, _, rfl, q⟩) ?_
    have ep2 := ep1.same s2
    have eq2 := eq1.same s2
    have met2 := met1.same s2
    obtain ⟨dy, _, _, _, _, _, _, _, _, ey, _⟩ := id mety
    have s12 := s2
    -- the places
    refine ⟨_, rfl, y, dy, _, rfl, ey, y, _, _, _, rfl, mety, fun a ha => ?_⟩
    refine ⟨_, rfl, pa, _, 0, _, rfl, rfl, SqT.of ep2, atI_nat (j := 0) rfl, _, rfl, pa, _, 1, _, rfl, rfl, SqT.of ep2, atI_nat (j := 1) rfl, _, rfl, pa, _, 0, _, rfl, rfl, SqT.of ep2, atI_nat (j := 0) rfl, _, rfl, _, _, rfl, rfl, pm.h1.ml bn, _, _, rfl, rfl, n_line, fun u nu => ?_⟩
    obtain ⟨H3, z3, s3, e3⟩ := mk_at (o := .tup [V.int p.1, V.int (p.2 + p.1 * n)]) nu
    rw [z3]
    refine ⟨_, _, pr_dp (ha.same s3), pr_dp (e := peelP n p) e3, pr_shaped _, pr_shaped _, _, rfl, iteFe (by rw [eqv_self (pr_shaped _)]; rfl) ?_⟩
    have eq3 := eq2.same s3
    refine ⟨_, rfl, y, dy, _, rfl, s3 _ _ ey, y, _, _, _, rfl, mety.same s3, fun a2 ha2 => ?_⟩
    refine ⟨_, rfl, qa, _, 0, _, rfl, rfl, SqT.of eq3, atI_nat (j := 0) rfl, _, rfl, qa, _, 1, _, rfl, rfl, SqT.of eq3, atI_nat (j := 1) rfl, _, rfl, qa, _, 0, _, rfl, rfl, SqT.of eq3, atI_nat (j := 0) rfl, _, rfl, _, _, rfl, rfl, pm.h3.ml bn, _, _, rfl, rfl, n_line, fun u2 nu2 => ?_⟩
    obtain ⟨H4, z4, s4, e4⟩ := mk_at (o := .tup [V.int q.1, V.int (q.2 + q.1 * n)]) nu2
    rw [z4]
    refine ⟨_, _, pr_dp (ha2.same s4), pr_dp (e := peelP n q) e4, pr_shaped _, pr_shaped _, _, rfl, iteFe (by rw [eqv_self (pr_shaped _)]; rfl) ?_⟩
    -- the bounds
    have s24 := s3.trans s4
    refine ⟨_, rfl, y, _, _, _, rfl, mety.same s24, fun tb H5 s5 hb => ?_⟩
    refine ⟨_, rfl, _, rfl, _, rfl, _, rfl, _, _, rfl, rfl, _, _, rfl, _, rfl, n_line, fun u3 nu3 => ?_⟩
    obtain ⟨H6, z6, s6, e6⟩ := mk_at (o := .tup [V.int b.low, oV b.high, V.int (if b.first - n > 0 then b.first - n else 0), oV (b.rounds.map fun r => mx0 (r - n))]) nu3
    rw [z6]
    refine ⟨_, _, bd_dp (hb.same s6), bd_dp (b := peelB n b) e6, bd_shaped _, bd_shaped _, _, rfl, iteFe (by rw [eqv_self (bd_shaped _)]; rfl) ?_⟩
    have s26 := s24.trans (s5.trans s6)
    have met6 := met2.same s26
    have mety6 := mety.same s26
    have ex6 := s26 _ _ (s2 _ _ ex)
    have ey6 := s26 _ _ ey
    have s16 := s2.trans s26
    have D6 := Dice.same D1 s16
    clear z3 z4 z6 e3 e4 e6 hb s3 s4 s5 s6 s24 s26 ha ha2 eq3 ep2 eq2 met2 met1 ep1 eq1 eb1 t1 mety ex ey
    -- the first pairs
    refine ⟨3, rfl, by decide, by decide, by decide, _, rfl, x, dx, _, rfl, ex6, rfl, x, p, q, b, rfl, met6, ps, bo, by decide, by decide, fun ys H7 s7 ro L nL => ?_⟩
    obtain ⟨H8, z8, s8, e8⟩ := mk_at (o := .lst ys) nL
    rw [z8]
    have s68 := s7.trans s8
    have ro := Rows.tt ro (.of s8)
    refine ⟨L, rfl, ⟨_, SqL.of e8⟩, for_list (K := K) (a := L) (xs := ys) (fun j σ H' => ∃ v w : Option V, σ = [some (.ref pa), some (.ref qa), some (.ref ba), some (.ref x), some (.ref d), some (.int n), some (.int b.low), some (oV b.high), some (.int b.first), some (oV b.rounds), some (.ref y), some (oV (b.rounds.map fun r => mx0 (r - n))), v, w, none] ∧ Same H8 H')
      ⟨_, _, rfl, Same.refl _⟩ (fun j σ H' _ ⟨_, _, _, s⟩ => s.seq (SqL.of e8)) ?_ ?_⟩
    · rintro j v σ H9 hj ⟨v1, w1, rfl, s9⟩
      obtain ⟨a, e, rfl, ne, ea⟩ := ro.at_ j v hj
      have jl : j < 3 := by
        have := (List.getElem?_eq_some_iff.mp hj).1
        have := ro.len
        omega
      obtain ⟨b1, b2⟩ := nth_sz ps bo (by omega) ne
      have g := (told_spec b pm.nz).each.good j e ne
      have ea9 := ea.same s9
      refine ⟨_, rfl, a, _, 0, _, rfl, rfl, SqT.of ea9, atI_nat (j := 0) rfl, _, rfl, _, _, rfl, rfl, _, rfl, a, _, 1, _, rfl, rfl, SqT.of ea9, atI_nat (j := 1) rfl, _, rfl, _, _, rfl, rfl, n_line, fun u nu => ?_⟩
      obtain ⟨H10, z10, s10, e10⟩ := mk_at (o := .tup [V.int (e.1 - n), V.int (e.2 - n)]) nu
      rw [z10]
      have s810 := s9.trans s10
      have s610 := s68.trans s810
      refine ⟨_, rfl, _, rfl, y, dy, _, rfl, s610 _ _ ey6, y, u, _, _, _, (e.1 - n, e.2 - n), rfl, mety6.same s610, e10, pz, (b1.sub bn.up).up, (b2.sub bn.up).up, fun H11 s11 => ⟨_, rfl, ?_⟩⟩
      have ea11 := (ea9.same s10).same s11
      refine ⟨_, rfl, a, _, 0, _, rfl, rfl, SqT.of ea11, atI_nat (j := 0) rfl, _, rfl, _, _, rfl, rfl, _, _, rfl, _, rfl, iteFe ?_ ?_⟩
      · have z : Good (peelP n p) (peelP n q) (peelB n b) (e.1 - n, e.2 - n) ↔ e.1 ≥ n := (peel_good n0 bm.l0 e).trans ⟨fun h => h.2, fun h => ⟨g, h⟩⟩
        have z2 : decide (Good (peelP n p) (peelP n q) (peelB n b) (e.1 - n, e.2 - n)) = decide (e.1 ≥ n) := decide_eq_decide.mpr z
        simp only [id]
        rw [z2]
        simp
      · exact ⟨_, _, rfl, s810.trans s11⟩
    rintro σ H9 ⟨v1, w1, rfl, s9⟩
    have s69 := s68.trans s9
    have met9 := met6.same s69
    have mety9 := mety6.same s69
    have ex9 := s69 _ _ ex6
    have ey9 := s69 _ _ ey6
    have D9 := Dice.same D6 s69
    have s19 := s16.trans s69
    clear ro e8 z8 s7 s8 s68 s9 s69 s16 ex6 ey6 met6 mety6 D6
    -- the first pairs of what is left
    refine ⟨3, rfl, by decide, by decide, by decide, _, rfl, y, dy, _, rfl, ey9, rfl, y, _, _, _, rfl, mety9, pz, bp, by decide, by decide, fun ys2 H10 s10 ro2 L2 nL2 => ?_⟩
    obtain ⟨H11, z11, s11, e11⟩ := mk_at (o := .lst ys2) nL2
    rw [z11]
    have s911 := s10.trans s11
    have ro2 := Rows.tt ro2 (.of s11)
    refine ⟨L2, rfl, ⟨_, SqL.of e11⟩, for_list (K := K) (a := L2) (xs := ys2) (fun j σ H' => ∃ v w : Option V, σ = [some (.ref pa), some (.ref qa), some (.ref ba), some (.ref x), some (.ref d), some (.int n), some (.int b.low), some (oV b.high), some (.int b.first), some (oV b.rounds), some (.ref y), some (oV (b.rounds.map fun r => mx0 (r - n))), v, w, none] ∧ Same H11 H')
      ⟨_, _, rfl, Same.refl _⟩ (fun j σ H' _ ⟨_, _, _, s⟩ => s.seq (SqL.of e11)) ?_ ?_⟩
    · rintro j v σ H12 hj ⟨v2, w2, rfl, s12⟩
      obtain ⟨a, e, rfl, ne, ea⟩ := ro2.at_ j v hj
      have jl : j < 3 := by
        have := (List.getElem?_eq_some_iff.mp hj).1
        have := ro2.len
        omega
      obtain ⟨b1, b2⟩ := nth_sz pz bp (by omega) ne
      have g := (told_spec (peelB n b) (p := peelP n p) (q := peelP n q) pz.nz).each.good j e ne
      have g2 := peel_back n0 bm.l0 g
      have ea12 := ea.same s12
      refine ⟨_, rfl, a, _, 0, _, rfl, rfl, SqT.of ea12, atI_nat (j := 0) rfl, _, rfl, _, _, rfl, rfl, _, rfl, a, _, 1, _, rfl, rfl, SqT.of ea12, atI_nat (j := 1) rfl, _, rfl, _, _, rfl, rfl, n_line, fun u nu => ?_⟩
      obtain ⟨H13, z13, s13, e13⟩ := mk_at (o := .tup [V.int (e.1 + n), V.int (e.2 + n)]) nu
      rw [z13]
      have s1113 := s12.trans s13
      have s913 := s911.trans s1113
      refine ⟨_, rfl, x, dx, _, rfl, s913 _ _ ex9, x, u, p, q, b, (e.1 + n, e.2 + n), rfl, met9.same s913, e13, ps, (b1.add bn.up).up, (b2.add bn.up).up, fun H14 s14 => ⟨_, rfl, _, rfl, iteFe ?_ ?_⟩⟩
      · rw [decide_eq_true g2]
        rfl
      · exact ⟨_, _, rfl, s1113.trans s14⟩
    rintro σ H12 ⟨v2, w2, rfl, s12⟩
    have s912 := s911.trans s12
    have met12 := met9.same s912
    have mety12 := mety9.same s912
    have ex12 := s912 _ _ ex9
    have ey12 := s912 _ _ ey9
    have D12 := Dice.same D9 s912
    have s112 := s19.trans s912
    clear ro2 e11 z11 s10 s11 s911 s12 s912 s19 ex9 ey9 met9 mety9 D9
    dsimp only
    refine seq_if (fun σ' H' => H' = H12 ∧ σ' = [some (.ref pa), some (.ref qa), some (.ref ba), some (.ref x), some (.ref d), some (.int n), some (.int b.low), some (oV b.high), some (.int b.first), some (oV b.rounds), some (.ref y), some (oV (b.rounds.map fun r => mx0 (r - n))), v2, w2, none]) (fun D' _ kd => ?_) ?_
    · refine ⟨_, rfl, y, dy, _, rfl, ey12, y, _, _, _, rfl, mety12, ?_⟩
      cases hn : (told (peelP n p) (peelP n q) (peelB n b)).near with
      | none => exact ⟨_, rfl, iteF (kd _ _ ⟨rfl, rfl⟩)⟩
      | some e =>
        obtain ⟨x0, hx0, le⟩ := peel_dist pm.nz n0 bm.l0 hn
        have d1 : distOf (told p q b) = some (x0.2 - x0.1) := by
          unfold distOf
          rw [hx0]
          rfl
        have d2 : distOf (told (peelP n p) (peelP n q) (peelB n b)) = some (e.2 - e.1) := by
          unfold distOf
          rw [hn]
          rfl
        refine ⟨_, rfl, iteT ⟨_, rfl, x, dx, _, rfl, ex12, x, p, q, b, rfl, met12, rfl, _, rfl, iteFe (by rw [d1]; simp [oV]) ⟨_, rfl, y, dy, _, rfl, ey12, y, _, _, _, rfl, mety12, _, rfl, x, dx, _, rfl, ex12, x, p, q, b, rfl, met12, e.2 - e.1, x0.2 - x0.1, (by rw [d2]; rfl), (by rw [d1]; rfl), _, rfl, iteFe (by simp; omega) ?_⟩⟩⟩
        exact kd _ _ ⟨rfl, rfl⟩
    rintro σ' H13 ⟨rfl, rfl⟩
    have c20 : (10 : Int) ^ 18 = 1000000000000000000 := by decide
    refine ⟨_, rfl, d, 20, rfl, by decide, by decide, D12, fun m Ha m0 m1 Da ua => ?_⟩
    have bm5 : B 60 m := B.small (by omega)
    have ka : Kd d H13 Ha := .ob Da ua
    have metA := met12.kd ka D12
    have metyA := mety12.kd ka D12
    obtain ⟨dxa, _, _, _, _, _, _, _, _, exa, _⟩ := id metA
    obtain ⟨dya, _, _, _, _, _, _, _, _, eya, _⟩ := id metyA
    have bnm : B 61 (n + m) := bn.add bm5
    have pz2 : PSz (peelP m (peelP n p)) (peelP m (peelP n q)) := ⟨pm.h1.up, ((pm.h2.add ((pm.h1.mul bn).up (m := 130))).add ((pm.h1.mul bm5).up (m := 131))).up, pm.h3.up, ((pm.h4.add ((pm.h3.mul bn).up (m := 130))).add ((pm.h3.mul bm5).up (m := 131))).up, pm.nz⟩
    have pz3 : PSz (peelP (n + m) p) (peelP (n + m) q) := by
      rw [← peelP_peelP, ← peelP_peelP]
      exact pz2
    refine ⟨_, rfl, y, dya, _, rfl, eya, rfl, _, rfl, y, _, _, _, m, rfl, metyA, pz, bp, m0, bm5.up, pz2, fun y2 Hb sb mety2 => ?_⟩
    have metb := metA.same sb
    refine ⟨_, rfl, x, dxa, _, rfl, sb _ _ exa, rfl, _, rfl, _, rfl, _, _, rfl, rfl, x, p, q, b, n + m, rfl, metb, ps, bo, by omega, bnm.up, pz3, fun x2 Hc sc metx2 => ?_⟩
    have mety3 := mety2.same sc
    rw [peelP_peelP, peelP_peelP, peelB_peelB n m0] at mety3
    obtain ⟨dy2, _, _, _, _, _, _, _, _, ey2, _⟩ := id mety3
    obtain ⟨dx2, _, _, _, _, _, _, _, _, ex2, _⟩ := id metx2
    refine ⟨y2, dy2, _, rfl, ey2, .inl ⟨x2, dx2, _, rfl, ex2⟩, y2, _, _, _, _, rfl, mety3, .inl ⟨x2, _, _, _, rfl, metx2, ⟨_, rfl, ?_⟩⟩⟩
    rw [eqM_refl]
    refine ⟨_, rfl, iteT ?_⟩
    -- nothing peeled
    have metc := metb.same sc
    have exc := sc _ _ (sb _ _ exa)
    refine ⟨_, rfl, x, dxa, _, rfl, exc, rfl, x, p, q, b, 0, rfl, metc, ps, bo, by decide, B0, (by rw [peelP_zero, peelP_zero]; exact ps), fun x3 Hd sd metx3 => ?_⟩
    rw [peelP_zero, peelP_zero, peelB_zero bo.first bo.rounds] at metx3
    have metd := metc.same sd
    obtain ⟨dx3, _, _, _, _, _, _, _, _, ex3, _⟩ := id metx3
    refine ⟨_, rfl, x3, dx3, _, rfl, ex3, .inl ⟨x, dxa, _, rfl, sd _ _ exc⟩, x3, _, _, _, _, rfl, metx3, .inl ⟨x, _, _, _, rfl, metd, ⟨_, rfl, ?_⟩⟩⟩
    rw [eqM_refl]
    exact k Hd (k1.trans ((Kd.of D1 s112).trans (ka.trans (.of ka.dice (sb.trans (sc.trans sd))))))
end
end K14
namespace L2
theorem Room.u1 {k : Nat} {A : PySem.Around} (r : Room k A) : A.units + 1 < PySem.cLine := by have := r.un; omega
end L2
namespace K14
open PySem L2
open L2.My
open Met
/-- a heap that differs at an object that is no instance, no tuple and no list -/
theorem MetAt.put {C x D : Addr} {H : Hp} {p q : Pr} {b : Bd} {u o : HO} (m : MetAt C H x p q b) (e : H D = some u) (n1 : ∀ C d f, u ≠ .ins C d f) (n2 : ∀ xs, u ≠ .tup xs) (n3 : ∀ xs, u ≠ .lst xs) : MetAt C (upd H D o) x p q b := by
  obtain ⟨dx, ta, ba, vl, vn, vs, vt, vr, t, ex, of⟩ := m
  refine ⟨dx, ta, ba, vl, vn, vs, vt, vr, t, ?_, of.tl ⟨fun a xs h => ?_, fun a xs h => ?_⟩⟩
  · rw [upd_ne]
    · exact ex
    · rintro rfl
      rw [e] at ex
      exact n1 _ _ _ (Option.some.inj ex)
  · rw [upd_ne]
    · exact h
    · rintro rfl
      rw [e] at h
      exact n2 _ (Option.some.inj h)
  · rw [upd_ne]
    · exact h
    · rintro rfl
      rw [e] at h
      exact n3 _ (Option.some.inj h)
def keyOf (s : Pr) : List Key := [.inl s.1, .inl s.2]
theorem keyOf_inj {s t : Pr} (h : keyOf s = keyOf t) : s = t := by
  unfold keyOf at h
  simp only [List.cons.injEq, Sum.inl.injEq, and_true] at h
  exact Prod.ext h.1 h.2
/-- the parts in the dict -/
inductive PartL (C : Addr) (p q : Pr) (b : Bd) (n : Nat) (H : Hp) : List (List Key × V) → List Pr → Prop
  | nil : PartL C p q b n H [] []
  | cons {x : Addr} {s : Pr} {kvs : List (List Key × V)} {l : List Pr} : MetAt C H x (unP n s.1 p) (unP n s.2 q) (unB n s.1 s.2 b) → PartL C p q b n H kvs l → PartL C p q b n H ((keyOf s, .ref x) :: kvs) (s :: l)
section
variable {C : Addr} {p q : Pr} {b : Bd} {n : Nat} {H H' : Hp} {kvs : List (List Key × V)} {l : List Pr}
theorem PartL.mono (h : PartL C p q b n H kvs l) (m : ∀ x p q b, MetAt C H x p q b → MetAt C H' x p q b) : PartL C p q b n H' kvs l := by
  induction h with
  | nil => exact .nil
  | cons a _ ih => exact .cons (m _ _ _ _ a) ih
theorem PartL.snoc {x : Addr} {s : Pr} (h : PartL C p q b n H kvs l) (m : MetAt C H x (unP n s.1 p) (unP n s.2 q) (unB n s.1 s.2 b)) : PartL C p q b n H (kvs ++ [(keyOf s, .ref x)]) (l ++ [s]) := by
  induction h with
  | nil => exact .cons m .nil
  | cons a _ ih => exact .cons a ih
theorem PartL.len (h : PartL C p q b n H kvs l) : kvs.length = l.length := by
  induction h with
  | nil => rfl
  | cons _ _ ih => simp [ih]
theorem PartL.new {s : Pr} (h : PartL C p q b n H kvs l) (no : s ∉ l) : valV kvs (keyOf s) = none := by
  induction h with
  | nil => rfl
  | cons _ _ ih =>
    rw [valV_neg]
    · exact ih fun z => no (List.mem_cons_of_mem _ z)
    · intro z
      rw [keyOf_inj z] at no
      exact no List.mem_cons_self
theorem PartL.at {i : Nat} {k : List Key} {v : V} (h : PartL C p q b n H kvs l) : kvs[i]? = some (k, v) → ∃ s x, l[i]? = some s ∧ k = keyOf s ∧ v = .ref x ∧ MetAt C H x (unP n s.1 p) (unP n s.2 q) (unB n s.1 s.2 b) := by
  induction h generalizing i with
  | nil => intro z; cases z
  | @cons x s _ _ a _ ih =>
    intro z
    cases i with
    | zero =>
      cases z
      exact ⟨s, x, rfl, rfl, rfl, a⟩
    | succ i => exact ih z
theorem PartL.val {s : Pr} (h : PartL C p q b n H kvs l) : s ∈ l → ∃ x, valV kvs (keyOf s) = some (.ref x) ∧ MetAt C H x (unP n s.1 p) (unP n s.2 q) (unB n s.1 s.2 b) := by
  induction h with
  | nil => intro z; cases z
  | @cons x s' _ _ a _ ih =>
    intro z
    by_cases c : s' = s
    · subst c
      exact ⟨x, valV_pos rfl, a⟩
    · have z2 : s ∈ _ := (List.mem_cons.mp z).resolve_left fun e => c e.symm
      rw [valV_neg fun e => c (keyOf_inj e)]
      exact ih z2
end
/-- the spots of the first copies -/
def pre (n i : Nat) : List Pr := (List.range i).flatMap fun (i : Nat) => (List.range n).map fun (j : Nat) => (((i : Int), (j : Int)) : Pr)
theorem pre_succ (n i : Nat) : pre n (i + 1) = pre n i ++ (List.range n).map fun (j : Nat) => (((i : Int), (j : Int)) : Pr) := by
  unfold pre
  rw [List.range_succ, List.flatMap_append, List.flatMap_singleton]
theorem pre_no (n i j : Nat) : (((i : Int), (j : Int)) : Pr) ∉ pre n i ++ (List.range j).map fun (j : Nat) => (((i : Int), (j : Int)) : Pr) := by
  intro h
  rcases List.mem_append.mp h with h | h
  · obtain ⟨k, hk, g⟩ := List.mem_flatMap.mp h
    obtain ⟨m, _, z⟩ := List.mem_map.mp g
    have := congrArg Prod.fst z
    have := List.mem_range.mp hk
    dsimp only at *
    omega
  · obtain ⟨m, hm, z⟩ := List.mem_map.mp h
    have := congrArg Prod.snd z
    have := List.mem_range.mp hm
    dsimp only at *
    omega
theorem pre_n (n : Nat) : ∀ i, (pre n i).length = i * n
  | 0 => by simp [pre]
  | i + 1 => by
    rw [pre_succ, List.length_append, pre_n n i, List.length_map, List.length_range, Nat.succ_mul]
theorem pre_len {n i j : Nat} (hi : i < n) (hj : j < n) (n5 : n ≤ 5) : (pre n i ++ (List.range j).map fun (j : Nat) => (((i : Int), (j : Int)) : Pr)).length ≤ 25 := by
  rw [List.length_append, pre_n, List.length_map, List.length_range]
  have : i * n ≤ 4 * 5 := Nat.mul_le_mul (by omega) n5
  omega
/-- a new dict that alone changes -/
def AccD (H0 : Hp) (D : Addr) (kvs : List (List Key × V)) (H : Hp) : Prop := Same H0 H ∧ H0 D = none ∧ H D = some (.dT kvs)
theorem AccD.start {H0 : Hp} {D : Addr} (hD : H0 D = none) : AccD H0 D [] (upd H0 D (.dT [])) := ⟨grow hD, hD, upd_same⟩
theorem AccD.put {H0 H : Hp} {D : Addr} {xs ys : List (List Key × V)} (a : AccD H0 D xs H) : AccD H0 D ys (upd H D (.dT ys)) :=
  ⟨fun q o e => by rw [upd_ne (ne_of_none e a.2.1)]; exact a.1 q o e, a.2.1, upd_same⟩
theorem AccD.on {H0 H H' : Hp} {D : Addr} {xs : List (List Key × V)} (a : AccD H0 D xs H) (s : Same H H') : AccD H0 D xs H' := ⟨fun q o e => s _ _ (a.1 q o e), a.2.1, s _ _ a.2.2⟩
theorem AccD.met {H0 H : Hp} {D C x : Addr} {xs ys : List (List Key × V)} {p q : Pr} {b : Bd} (a : AccD H0 D xs H) (m : MetAt C H x p q b) : MetAt C (upd H D (.dT ys)) x p q b := m.put a.2.2 (fun _ _ _ h => by cases h) (fun _ h => by cases h) (fun _ h => by cases h)
section
variable {P : Program} {w : World} {K : PySem.W.Frag} {mg : Str → Option Value} {base : Heap}
/-! ### _law_copies -/
def spCopies (C : Addr) : Sp := fun vs H Q _ => ∃ (pa qa ba x : Addr) (p q : Pr) (b : Bd) (n : Nat), vs = [.ref pa, .ref qa, .ref ba, .ref x, .int n] ∧ PairAt H pa p ∧ PairAt H qa q ∧ BdAt H ba b ∧ MetAt C H x p q b ∧ PM p q ∧ BM b ∧ 0 < n ∧ n ≤ 5 ∧ ∀ D H' kvs, AccD H D kvs H' → PartL C p q b n H' kvs (spots n) → Q (.ref D) H'
structure RTxt (mg : Str → Option Value) : Prop where
  max : mg "max" = none
  range : mg "range" = none
abbrev lCopies : Stmt := top 43
abbrev n_cp : List Str := ["_law_place", "_law_other", "_law_bounds_here", "_law_met", "_law_copies_here", "_law_low", "_law_high", "_law_first", "_law_rounds", "_law_found", "_law_one_here", "_law_two", "_law_part", "_law_due", "_law_left"]
theorem sl_cp : FnScope n_cp ["_law_place", "_law_other", "_law_bounds_here", "_law_met", "_law_copies_here"] (defScope lCopies) := ⟨rfl, rfl, rfl, by decide +kernel, rfl, by decide +kernel, by decide +kernel⟩
theorem ok_cp {f fup fbo : Addr} {fd fdup fdbo : FuncData} (F : Fun K "_law_copies" "_law_copies" lCopies f fd) {C fU aP gP aO gO : Addr} {fdU fdp fdO : FuncData} (T : RTxt mg) (X : CTxt K C) (mU : Nn P w K mg base C "unrolled" ["self", "copies", "one", "two"] 7 (spUnr C) fU fdU) (rP : Pn P w K mg base C "place" (spGP C) aP gP fdp) (rO : Pn P w K mg base C "other" (spGO C) aO gO fdO) (dup : Dn P w K mg base CX0 "_law_up" ["_law_number", "_law_parts"] 1 spUp fup fdup) (dbo : Dn P w K mg base CX0 "_law_bounds_of" ["_law_met"] 3 (spBOf C) fbo fdbo) : FnOk P w K mg base CX0 8 f fd ["_law_place", "_law_other", "_law_bounds_here", "_law_met", "_law_copies_here"] (spCopies C) := by
  refine F.ok sl_cp (fun vs H Q E h => ?_) (fun cdv A outer s H vs Q E hr h => ?_)
  · obtain ⟨pa, qa, ba, x, p, q, b, n, rfl, _⟩ := h
    rfl
  · obtain ⟨pa, qa, ba, x, p, q, b, n, rfl, ep, eq, eb, met, pm, bm, n0, n5, k⟩ := h
    have hr1 : Room 1 _ := hr.mono (by decide)
    have hr2 : Room 2 _ := hr.mono (by decide)
    have hr3 : Room 3 _ := hr.mono (by decide)
    refine ⟨_, pss_cons (ps_asg (pv 2) (pg_tup rfl (pgs_cons (pg_name (i := 5) sl_cp.nd rfl (.inl rfl)) (pgs_cons (pg_name (i := 6) sl_cp.nd rfl (.inl rfl)) (pgs_cons (pg_name (i := 7) sl_cp.nd rfl (.inl rfl)) (pgs_cons (pg_name (i := 8) sl_cp.nd rfl (.inl rfl)) pgs_nil)))))) (pss_cons (ps_set (i := 9) sl_cp.nd rfl (.inl rfl) pe_dnewT) (pss_cons (ps_for PassesOwn.never rfl (pi_range1 rfl T.range (pa_cons (pv 4) pa_nil)) (pg_name (i := 10) sl_cp.nd rfl (.inl rfl)) (pss_one (ps_for PassesOwn.never rfl (pi_range1 rfl T.range (pa_cons (pv 4) pa_nil)) (pg_name (i := 11) sl_cp.nd rfl (.inl rfl)) (pss_cons (ps_set (i := 12) sl_cp.nd rfl (.inl rfl) (pe_meth (pv 3) X.cl mU.m mU.G hr mU.b .nil pass0 (pa_cons (pv 4) (pa_cons (pv 10) (pa_cons (pv 11) pa_nil))))) (pss_cons (ps_set (i := 13) sl_cp.nd rfl (.inl rfl) (pe_tup (pa_cons (pe_call dup.G hr1 rfl dup.g dup.kp dup.b .nil pass0 (pa_cons (pe_op op_sub (pe_op op_add (pv 5) (pv 10)) (pv 11)) (pa_cons (pv 4) pa_nil))) (pa_cons (pe_ifExp (pt_cmpR op_isN (pv 6) pe_non (nomark _)) pe_non (pe_op op_fdivW (pe_op op_sub (pe_op op_add (pv 6) (pv 10)) (pv 11)) (pv 4))) pa_nil)))) (pss_cons (ps_set (i := 14) sl_cp.nd rfl (.inl rfl) (pe_ifExp (pt_cmpR op_isN (pv 8) pe_non (nomark _)) pe_non (pe_callB (call_max2 rfl) (by rfl) T.max (by decide +kernel) (pa_cons pe_int (pa_cons (pe_call dup.G hr1 rfl dup.g dup.kp dup.b .nil pass0 (pa_cons (pe_op op_sub (pv 8) (pv 11)) (pa_cons (pv 4) pa_nil))) pa_nil))))) (pss_cons (ps_if (pt_cmpR ((op_neD hr.units)) (pe_call dbo.G hr3 rfl dbo.g dbo.kp dbo.b .nil pass0 (pa_cons (pv 12) pa_nil)) (pe_op op_catT (pv 13) (pe_tup (pa_cons (pe_callB (call_max2 rfl) (by rfl) T.max (by decide +kernel) (pa_cons pe_int (pa_cons (pe_call dup.G hr1 rfl dup.g dup.kp dup.b .nil pass0 (pa_cons (pe_op op_sub (pv 7) (pv 10)) (pa_cons (pv 4) pa_nil))) pa_nil))) (pa_cons (pv 14) pa_nil)))) (nomark _)) (pss_one (ps_ret pe_dnewT)) pss_nil) (pss_cons (ps_if (pt_cmpR ((op_neD hr.units)) (pe_prop (pv 12) X.cl rP.h rP.G hr2 rP.b .nil pass0 rfl) (pe_tup (pa_cons (pe_op op_mulW (pv 4) (pe_ix ix_tup (pv 0) pe_int (fun _ _ => rfl))) (pa_cons (pe_op op_add (pe_ix ix_tup (pv 0) pe_int (fun _ _ => rfl)) (pe_op op_mulW (pe_ix ix_tup (pv 0) pe_int (fun _ _ => rfl)) (pv 10))) pa_nil))) (nomark _)) (pss_one (ps_ret pe_dnewT)) pss_nil) (pss_cons (ps_if (pt_cmpR ((op_neD hr.units)) (pe_prop (pv 12) X.cl rO.h rO.G hr2 rO.b .nil pass0 rfl) (pe_tup (pa_cons (pe_op op_mulW (pv 4) (pe_ix ix_tup (pv 1) pe_int (fun _ _ => rfl))) (pa_cons (pe_op op_add (pe_ix ix_tup (pv 1) pe_int (fun _ _ => rfl)) (pe_op op_mulW (pe_ix ix_tup (pv 1) pe_int (fun _ _ => rfl)) (pv 11))) pa_nil))) (nomark _)) (pss_one (ps_ret pe_dnewT)) pss_nil) (pss_one (ps_asg (pv 12) (pg_sub (pv 9) (pe_tup (pa_cons (pv 10) (pa_cons (pv 11) pa_nil))) (set_dict (Room.u1 hr)))))))))))))) (pss_one (ps_ret (pv 9))))), ?_⟩
    obtain ⟨dx, _, _, _, _, _, _, _, _, ex, _⟩ := id met
    refine ⟨_, rfl, ba, _, rfl, SqT.of eb, rfl, _, _, rfl, _, _, rfl, _, _, rfl, _, _, rfl, rfl, fun D nD => ?_⟩
    have bn : B 3 (n : Int) := sm5 (by omega) (by omega)
    refine ⟨_, rfl, n, rfl, by omega, by omega, ?_⟩
    refine for_range (n := n) (fun i σ H' => ∃ (kvs : List (List Key × V)) (v10 v11 v12 v13 v14 : Option V), σ = [some (.ref pa), some (.ref qa), some (.ref ba), some (.ref x), some (.int n), some (.int b.low), some (oV b.high), some (.int b.first), some (oV b.rounds), some (.ref D), v10, v11, v12, v13, v14] ∧ AccD H D kvs H' ∧ PartL C p q b n H' kvs (pre n i))
      ⟨[], _, _, _, _, _, rfl, AccD.start nD, .nil⟩ ?_ ?_
    · rintro i σ H1 hi ⟨kvs0, v10, v11, v12, v13, v14, rfl, ac0, pl0⟩
      rw [show (0 : Int) + (i : Int) = i by omega]
      refine ⟨_, rfl, n, rfl, by omega, by omega, ?_⟩
      refine for_range (n := n) (fun j σ H' => ∃ (kvs : List (List Key × V)) (v11 v12 v13 v14 : Option V), σ = [some (.ref pa), some (.ref qa), some (.ref ba), some (.ref x), some (.int n), some (.int b.low), some (oV b.high), some (.int b.first), some (oV b.rounds), some (.ref D), some (.int i), v11, v12, v13, v14] ∧ AccD H D kvs H' ∧ PartL C p q b n H' kvs (pre n i ++ (List.range j).map fun (j : Nat) => (((i : Int), (j : Int)) : Pr)))
        ⟨kvs0, _, _, _, _, rfl, ac0, by simpa using pl0⟩ ?_ ?_
      · rintro j σ H2 hj ⟨kvs, v11, v12, v13, v14, rfl, ac, pl⟩
        rw [show (0 : Int) + (j : Int) = j by omega]
        have bi : B 3 (i : Int) := sm5 (by omega) (by omega)
        have bj : B 3 (j : Int) := sm5 (by omega) (by omega)
        refine ⟨_, rfl, x, dx, _, rfl, ac.1 _ _ ex, rfl, _, rfl, _, rfl, _, rfl, x, p, q, b, n, i, j, rfl, met.same ac.1, pm, bm, n0, n5, by omega, by omega, by omega, by omega, fun y H3 s3 mety => ?_⟩
        refine ⟨_, rfl, _, rfl, _, _, rfl, rfl, _, rfl, _, _, rfl, rfl, _, rfl, _, n, rfl, n0, n5, ?_⟩
        refine tIf_opt (o := b.high) (f := fun h => (h + i - j) / n) (fun Q q => ⟨_, rfl, q⟩) (fun r hr Q q => ⟨_, rfl, _, rfl, r, i, (by rw [hr]; rfl), rfl, _, rfl, _, _, rfl, rfl, _, rfl, _, _, rfl, rfl, bn.dw (by omega), q⟩) ?_
        refine ⟨n_line, fun u nu => ?_⟩
        obtain ⟨H4, z4, s4, e4⟩ := mk_at (o := .tup [V.int (up' (b.low + i - j) n), oV (b.high.map fun h => (h + i - j) / n)]) nu
        rw [z4]
        refine tIf_opt (o := b.rounds) (f := fun r => mx0 (up' (r - j) n)) (fun Q q => ⟨_, rfl, q⟩) (fun r hr Q q => ⟨_, rfl, _, rfl, r, j, (by rw [hr]; rfl), rfl, _, rfl, _, n, rfl, n0, n5, _, _, rfl, q⟩) ?_
        refine ⟨_, rfl, y, _, _, _, rfl, mety.same s4, fun tb H5 s5 hb => ?_⟩
        refine ⟨_, rfl, _, rfl, _, rfl, _, _, rfl, rfl, _, rfl, _, n, rfl, n0, n5, _, _, rfl, _, rfl, n_line, fun w nw => ?_⟩
        obtain ⟨H6, z6, s6, e6⟩ := mk_at (o := .tup [V.int (if up' (b.first - i) n > 0 then up' (b.first - i) n else 0), oV (b.rounds.map fun r => mx0 (up' (r - j) n))]) nw
        rw [z6]
        refine ⟨u, w, _, _, rfl, rfl, SqT.of (s6 _ _ (s5 _ _ e4)), SqT.of e6, (fun h => by cases h), (show 4 ≤ sizeLine by decide), (fun h => by cases h), fun _ c nc => ?_⟩
        obtain ⟨H7, z7, s7, e7⟩ := mk_at (o := .tup ([V.int (up' (b.low + i - j) n), oV (b.high.map fun h => (h + i - j) / n)] ++ [V.int (if up' (b.first - i) n > 0 then up' (b.first - i) n else 0), oV (b.rounds.map fun r => mx0 (up' (r - j) n))])) nc
        rw [z7]
        refine ⟨_, _, bd_dp (hb.same (s6.trans s7)), bd_dp (b := unB n i j b) e7, bd_shaped _, bd_shaped _, _, rfl, iteFe (by rw [eqv_self (bd_shaped _)]; rfl) ?_⟩
        have s37 := s4.trans (s5.trans (s6.trans s7))
        have ac7 := ac.on (s3.trans s37)
        have mety7 := mety.same s37
        have pl7 := pl.mono (fun _ _ _ _ m => m.same (s3.trans s37))
        have ep7 := ep.same ac7.1
        have eq7 := eq.same ac7.1
        clear z4 z6 z7 e4 e6 e7 hb s4 s5 s6 s7 s37 nc nw nu ac pl mety s3
        obtain ⟨dy, _, _, _, _, _, _, _, _, ey7, _⟩ := id mety7
        refine ⟨_, rfl, y, dy, _, rfl, ey7, y, _, _, _, rfl, mety7, fun a ha => ?_⟩
        refine ⟨_, rfl, _, rfl, pa, _, 0, _, rfl, rfl, SqT.of ep7, atI_nat (j := 0) rfl, _, _, rfl, rfl, bn.ml pm.h1, _, rfl, pa, _, 1, _, rfl, rfl, SqT.of ep7, atI_nat (j := 1) rfl, _, rfl, pa, _, 0, _, rfl, rfl, SqT.of ep7, atI_nat (j := 0) rfl, _, rfl, _, _, rfl, rfl, pm.h1.ml bi, _, _, rfl, rfl, n_line, fun u2 nu2 => ?_⟩
        obtain ⟨H8, z8, s8, e8⟩ := mk_at (o := .tup [V.int (n * p.1), V.int (p.2 + p.1 * i)]) nu2
        rw [z8]
        refine ⟨_, _, pr_dp (ha.same s8), pr_dp (e := unP n i p) e8, pr_shaped _, pr_shaped _, _, rfl, iteFe (by rw [eqv_self (pr_shaped _)]; rfl) ?_⟩
        have eq8 := eq7.same s8
        refine ⟨_, rfl, y, dy, _, rfl, s8 _ _ ey7, y, _, _, _, rfl, mety7.same s8, fun a2 ha2 => ?_⟩
        refine ⟨_, rfl, _, rfl, qa, _, 0, _, rfl, rfl, SqT.of eq8, atI_nat (j := 0) rfl, _, _, rfl, rfl, bn.ml pm.h3, _, rfl, qa, _, 1, _, rfl, rfl, SqT.of eq8, atI_nat (j := 1) rfl, _, rfl, qa, _, 0, _, rfl, rfl, SqT.of eq8, atI_nat (j := 0) rfl, _, rfl, _, _, rfl, rfl, pm.h3.ml bj, _, _, rfl, rfl, n_line, fun u3 nu3 => ?_⟩
        obtain ⟨H9, z9, s9, e9⟩ := mk_at (o := .tup [V.int (n * q.1), V.int (q.2 + q.1 * j)]) nu3
        rw [z9]
        refine ⟨_, _, pr_dp (ha2.same s9), pr_dp (e := unP n j q) e9, pr_shaped _, pr_shaped _, _, rfl, iteFe (by rw [eqv_self (pr_shaped _)]; rfl) ?_⟩
        refine ⟨_, rfl, _, rfl, _, rfl, _, rfl, n_line, fun kk nkk => ?_⟩
        obtain ⟨Ha, za, sa, ea⟩ := mk_at (o := .tup [V.int i, V.int j]) nkk
        rw [za]
        have s7a := s8.trans (s9.trans sa)
        have aca := ac7.on s7a
        have metya := mety7.same s7a
        have pla := pl7.mono (fun _ _ _ _ m => m.same s7a)
        have no : (((i : Int), (j : Int)) : Pr) ∉ pre n i ++ (List.range j).map fun (j : Nat) => (((i : Int), (j : Int)) : Pr) := pre_no n i j
        have len : kvs.length < sizeLine := by
          rw [pla.len]
          exact Nat.lt_of_le_of_lt (pre_len hi hj n5) (show 25 < sizeLine by decide)
        refine ⟨D, _, rfl, .inr ⟨kvs, keyOf ((i : Int), (j : Int)), kk, aca.2.2, rfl, ea, len, rfl⟩, ?_⟩
        rw [putK_new _ (pla.new no)]
        refine ⟨_, _, _, _, _, rfl, aca.put, ?_⟩
        rw [List.range_succ, List.map_append, ← List.append_assoc]
        exact (pla.mono (fun _ _ _ _ m => aca.met m)).snoc (aca.met metya)
      · rintro σ H2 ⟨kvs, v11, v12, v13, v14, rfl, ac, pl⟩
        refine ⟨kvs, _, _, _, _, _, rfl, ac, ?_⟩
        rw [pre_succ]
        exact pl
    · rintro σ H2 ⟨kvs, v10, v11, v12, v13, v14, rfl, ac, pl⟩
      exact ⟨_, rfl, k D H2 kvs ac pl⟩
end
end K14
namespace K14
open PySem L2
open L2.My
open Met
theorem eqv_pr (u v : Pr) : PyData.eqv (prD u) (prD v) = decide (u = v) := by
  have : (u = v) ↔ (u.1 = v.1 ∧ u.2 = v.2) := Prod.ext_iff
  simp [prD, PyData.eqv, PyData.eqvAll, this]
  rw [Bool.eq_iff_iff]
  simp
/-- what stood there is put back -/
theorem unlock_same {H H' : Hp} {D : Addr} {u v : HO} (e : H D = some u) (s : Same (upd H D v) H') : Same H (upd H' D u) := fun b o h => by
  by_cases c : b = D
  · subst c
    rw [e] at h
    cases h
    exact upd_same
  · rw [upd_ne c]
    exact s b o (by rw [upd_ne c]; exact h)
section
variable {C D : Addr} {p q : Pr} {b : Bd} {n : Nat} {H : Hp} {kvs ws : List (List Key × V)} {l : List Pr} {o : HO}
theorem met_lock {x : Addr} (e : H D = some (.dT ws)) (m : MetAt C H x p q b) : MetAt C (upd H D o) x p q b := m.put e (fun _ _ _ h => by cases h) (fun _ h => by cases h) (fun _ h => by cases h)
theorem pair_lock {c : Addr} {e' : Pr} (e : H D = some (.dT ws)) (m : PairAt H c e') : PairAt (upd H D o) c e' := by
  unfold PairAt
  rw [upd_ne]
  · exact m
  · rintro rfl
    unfold PairAt at m
    rw [e] at m
    cases m
end
section
variable {P : Program} {w : World} {K : PySem.W.Frag} {mg : Str → Option Value} {base : Heap}
/-! ### _law_is_parted -/
structure STxt (mg : Str → Option Value) : Prop where
  int : mg "int" = none
def spParted (C : Addr) : Sp := fun vs H Q _ => ∃ (x : V) (D c : Addr) (kvs : List (List Key × V)) (p q e : Pr) (b : Bd) (n : Nat), vs = [x, .ref D, .int n, .ref c] ∧ H D = some (.dT kvs) ∧ PartL C p q b n H kvs (spots n) ∧ PM p q ∧ BM b ∧ 0 < n ∧ n ≤ 5 ∧ PairAt H c e ∧ Good p q b e ∧ B 1100 e.1 ∧ B 1100 e.2 ∧ ∀ H', Same H H' → Q (.bl true) H'
abbrev lIsParted : Stmt := top 44
abbrev n_ip : List Str := ["_law_met", "_law_parts", "_law_copies_here", "_law_pair", "_law_spot", "_law_one_here", "_law_two", "_law_inside"]
theorem sl_ip : FnScope n_ip ["_law_met", "_law_parts", "_law_copies_here", "_law_pair"] (defScope lIsParted) := ⟨rfl, rfl, rfl, by decide +kernel, rfl, by decide +kernel, by decide +kernel⟩
theorem ok_ip {f  : Addr} {fd  : FuncData} (F : Fun K "_law_is_parted" "_law_is_parted" lIsParted f fd) {C gH : Addr} {fdH : FuncData} (T : STxt mg) (nH : Hn P w K mg base C gH fdH)  : FnOk P w K mg base CX0 5 f fd ["_law_met", "_law_parts", "_law_copies_here", "_law_pair"] (spParted C) := by
  refine F.ok sl_ip (fun vs H Q E h => ?_) (fun cdv A outer s H vs Q E hr h => ?_)
  · obtain ⟨x, D, c, kvs, p, q, e, b, n, rfl, _⟩ := h
    rfl
  · obtain ⟨x, D, c, kvs, p, q, e, b, n, rfl, eD, pl, pm, bm, n0, n5, ec, g, b1, b2, k⟩ := h
    have hr3 : Room 3 _ := hr.mono (by decide)
    refine ⟨_, pss_cons (ps_set (i := 4) sl_ip.nd rfl (.inl rfl) (pe_tup (pa_cons (pe_op op_mod (pe_callTy call_int1 (by rfl) T.int (by decide +kernel) (pa_cons (pe_ix ix_tup (pv 3) pe_int (fun _ _ => rfl)) pa_nil)) (pv 2)) (pa_cons (pe_op op_mod (pe_callTy call_int1 (by rfl) T.int (by decide +kernel) (pa_cons (pe_ix ix_tup (pv 3) pe_int (fun _ _ => rfl)) pa_nil)) (pv 2)) pa_nil)))) (pss_cons (ps_lock (ps_for PassesOwn.never rfl (pi_keys (pv 1)) (pg_tup rfl (pgs_cons (pg_name (i := 5) sl_ip.nd rfl (.inl rfl)) (pgs_cons (pg_name (i := 6) sl_ip.nd rfl (.inl rfl)) pgs_nil))) (pss_cons (ps_set (i := 7) sl_ip.nd rfl (.inl rfl) (pe_cmpR ((op_inOwn nH.hs nH.hf nH.G nH.b rfl hr3 pass0)) (pe_tup (pa_cons (pe_op op_fdivW (pe_ix ix_tup (pv 3) pe_int (fun _ _ => rfl)) (pv 2)) (pa_cons (pe_op op_fdivW (pe_ix ix_tup (pv 3) pe_int (fun _ _ => rfl)) (pv 2)) pa_nil))) (pe_dget (Room.u1 hr) (pv 1) (pe_tup (pa_cons (pv 5) (pa_cons (pv 6) pa_nil))) (fun _ _ => rfl)) (by rfl))) (pss_one (ps_if (PW.pt (pw_and (pt_cmpR ((op_eqD hr.units)) (pe_tup (pa_cons (pv 5) (pa_cons (pv 6) pa_nil))) (pv 4) (nomark _)) (pw_and1 (pt_not (pt_val (pv 7)))))) (pss_one (ps_ret pe_bl)) pss_nil))))) (pss_one (ps_ret pe_bl))), ?_⟩
    have bn : B 3 (n : Int) := sm5 (by omega) (by omega)
    refine ⟨_, rfl, c, _, 0, _, rfl, rfl, SqT.of ec, atI_nat (j := 0) rfl, .inl ⟨_, rfl, _, rfl, _, _, rfl, rfl, (by show (0 : Int) < n; omega), ?_⟩⟩
    refine ⟨_, rfl, c, _, 1, _, rfl, rfl, SqT.of ec, atI_nat (j := 1) rfl, .inl ⟨_, rfl, _, rfl, _, _, rfl, rfl, (by show (0 : Int) < n; omega), n_line, fun u nu => ?_⟩⟩
    obtain ⟨H1, z1, s1, e1⟩ := mk_at (o := .tup [V.int (e.1 % n), V.int (e.2 % n)]) nu
    rw [z1]
    have eD1 := s1 _ _ eD
    refine ⟨D, _, eD1, trivial, fun od => ?_⟩
    have pl2 : PartL C p q b n (upd H1 D (.frz od (.dT kvs))) kvs (spots n) := (pl.mono fun _ _ _ _ m => m.same s1).mono fun _ _ _ _ m => met_lock eD1 m
    have eu2 : PairAt (upd H1 D (.frz od (.dT kvs))) u (e.1 % n, e.2 % n) := pair_lock eD1 e1
    have ec2 : PairAt (upd H1 D (.frz od (.dT kvs))) c e := pair_lock eD1 (ec.same s1)
    have fin : ∀ H', Same (upd H1 D (.frz od (.dT kvs))) H' → Same H (upd H' D (.dT kvs)) := fun H' s' => s1.trans (unlock_same eD1 s')
    have fz : (upd H1 D (.frz od (.dT kvs))) D = some (.frz od (.dT kvs)) := upd_same
    generalize upd H1 D (.frz od (.dT kvs)) = H2 at pl2 eu2 ec2 fin fz
    refine ⟨_, rfl, D, od, rfl, .inr ⟨kvs, fz, ?_⟩⟩
    refine for_it walk_keysT (fun i σ H' => ∃ v5 v6 v7 : Option V, σ = [some x, some (.ref D), some (.int n), some (.ref c), some (.ref u), v5, v6, v7] ∧ Same H2 H') ⟨_, _, _, rfl, Same.refl _⟩ (fun i σ H' _ ⟨_, _, _, _, s'⟩ => s' _ _ fz) ?_ ?_
    · rintro i v σ H0 H3 hi ⟨v5, v6, v7, rfl, s3⟩ ⟨rfl, key, val, kq, hk, rfl, ekq⟩
      obtain ⟨s, y, hs, rfl, rfl, mety⟩ := pl2.at hk
      have ms := List.mem_of_getElem? hs
      have ekq : PairAt H3 kq s := ekq
      refine ⟨kq, _, rfl, SqT.of ekq, rfl, _, _, rfl, _, _, rfl, rfl, ?_⟩
      have ec3 := ec2.same s3
      refine ⟨_, rfl, c, _, 0, _, rfl, rfl, SqT.of ec3, atI_nat (j := 0) rfl, _, rfl, _, _, rfl, rfl, bn.dw (by omega), _, rfl, c, _, 1, _, rfl, rfl, SqT.of ec3, atI_nat (j := 1) rfl, _, rfl, _, _, rfl, rfl, bn.dw (by omega), n_line, fun w nw => ?_⟩
      obtain ⟨H4, z4, s4, e4⟩ := mk_at (o := .tup [V.int (e.1 / n), V.int (e.2 / n)]) nw
      rw [z4]
      refine ⟨_, rfl, _, rfl, _, rfl, n_line, fun w2 nw2 => ?_⟩
      obtain ⟨H5, z5, s5, e5⟩ := mk_at (o := .tup [V.int s.1, V.int s.2]) nw2
      rw [z5]
      have s35 := s4.trans s5
      have s25 := s3.trans s35
      obtain ⟨y2, hv, mety2⟩ := pl2.val ms
      have mety5 := mety2.same s25
      obtain ⟨dy, _, _, _, _, _, _, _, _, ey5, _⟩ := id mety5
      have ps2 : PSz (unP n s.1 p) (unP n s.2 q) := by
        obtain ⟨a1, a2, a3, a4⟩ := mem_spots.mp ms
        exact un_sz pm n0 n5 a1 a2 a3 a4
      refine ⟨D, .ref y2, rfl, .inr ⟨kvs, keyOf s, w2, .inr ⟨od, s25 _ _ fz⟩, rfl, e5, hv.symm⟩, ?_⟩
      refine ⟨y2, dy, _, rfl, ey5, y2, w, _, _, _, (e.1 / n, e.2 / n), rfl, mety5, s5 _ _ e4, ps2, (ediv_sz b1).up, (ediv_sz b2).up, fun H6 s6 => ⟨_, rfl, ?_⟩⟩
      refine ⟨_, rfl, _, rfl, n_line, fun w3 nw3 => ?_⟩
      obtain ⟨H7, z7, s7, e7⟩ := mk_at (o := .tup [V.int s.1, V.int s.2]) nw3
      rw [z7]
      have s37 := s35.trans (s6.trans s7)
      have eu7 := eu2.same (s3.trans s37)
      refine ⟨_, rfl, _, _, pr_dp (e := s) e7, pr_dp eu7, pr_shaped _, pr_shaped _, _, rfl, ?_⟩
      rw [eqv_pr]
      by_cases cc : s = (e.1 % n, e.2 % n)
      · subst cc
        have gg := (un_spot (n := n) (by omega) bm.l0 bm.f0 e).mpr g
        refine iteTe (decide_eq_true rfl) ⟨_, rfl, _, rfl, iteFe ?_ ?_⟩
        · simp only [id]
          rw [decide_eq_true gg]
          rfl
        · exact ⟨_, _, _, rfl, s3.trans s37⟩
      · exact iteFe (decide_eq_false cc) (iteF ⟨_, _, _, rfl, s3.trans s37⟩)
    · rintro σ H3 ⟨v5, v6, v7, rfl, s3⟩
      exact ⟨s3 _ _ fz, k _ (fin H3 s3)⟩
end
end K14
namespace K14
open PySem L2
open L2.My
open Met
theorem ixt_at {K : PySem.W.Frag} {X : Cx} (e : X.K = K) : IxR X (rIxT K) := e ▸ ix_tup
theorem ixl_at {K : PySem.W.Frag} {X : Cx} (e : X.K = K) : IxR X (rIxL K) := e ▸ ix_list
theorem gName_eq {i : Nat} {v : V} {σ : L2.St} {H : Hp} {Q : L2.St → Hp → Prop} : gName i v σ H Q = Q (σ.set i (some v)) H := rfl
theorem seq_drop {te : TE} {u : TS} {D : Ends} {σ : L2.St} {H : Hp} (R : Hp → Prop) (k : ∀ Q : VK, (∀ v H', R H' → Q v H') → te σ H Q) (h : ∀ H', R H' → u D σ H') : tSeq (tDrop te) u D σ H := k _ fun _ H' r => h H' r
theorem same_off {H H' : Hp} {L : Addr} {o : HO} (s : Same H H') (n : H L = none) : Same H (upd H' L o) := fun b u e => by
  rw [upd_ne (ne_of_none e n)]
  exact s b u e
theorem spots_len (n : Nat) : (spots n).length = n * n := pre_n n n
theorem same_none {H H' : Hp} {L : Addr} (s : Same H H') (h : H' L = none) : H L = none := by
  cases z : H L with
  | none => rfl
  | some o =>
    rw [s _ _ z] at h
    cases h
/-- a list made while the dict was locked -/
theorem list_lock {H2 H3 : Hp} {L D : Addr} {xs : List V} {u o : HO} (a : Acc H2 L xs H3) (e : H2 D = some u) : (upd H3 D o) L = some (.lst xs) := by
  rw [upd_ne]
  · exact a.2.2
  · rintro rfl
    rw [a.2.1] at e
    cases e
theorem in_non (os : List (Option Int)) : inV V.non (os.map oV) = os.any Option.isNone := by
  induction os with
  | nil => rfl
  | cons o os ih =>
    rw [List.map_cons, List.any_cons, ← ih]
    cases o <;> simp [inV, oV, eqV]
theorem ints_dp {K : PySem.W.Frag} {H : Hp} : ∀ ns : List Int, DpAll K H (ns.map V.int) (ns.map PyData.int)
  | [] => .nil
  | _ :: ns => .cons (.int _) (ints_dp ns)
theorem ints_sh : ∀ ns : List Int, PyData.canLayAll0 (ns.map PyData.int) = true ∧ PyData.depthAll (ns.map PyData.int) = 0
  | [] => ⟨rfl, rfl⟩
  | n :: ns => by
    obtain ⟨h1, h2⟩ := ints_sh ns
    constructor
    · simp [PyData.canLayAll0, PyData.canLay0, h1]
    · simp [PyData.depthAll, PyData.depth, h2]
theorem ints_shaped (ns : List Int) : SeqAt.shaped (.list (ns.map PyData.int)) = true := by
  obtain ⟨h1, h2⟩ := ints_sh ns
  simp [SeqAt.shaped, PyData.canLay0, PyData.depth, h1, h2]
section
variable {P : Program} {w : World} {K : PySem.W.Frag} {mg : Str → Option Value} {base : Heap}
/-! ### _law_unrolls -/
/-- whether meetings are not empty -/
def ttOwn (C : Addr) (te : TE) : L2.TT := fun σ H Q => te σ H fun x H' => ∃ a dx fs, x = .ref a ∧ H' a = some (.ins C dx fs) ∧ spGT C [.ref a] H' (fun z H' => ∃ b, z = .bl b ∧ Q b H') E0
structure VTxt (mg : Str → Option Value) : Prop where
  len : mg "len" = none
  sum : mg "sum" = none
  min : mg "min" = none
  all : mg "all" = none
  zip : mg "zip" = none
  range : mg "range" = none
def spUnrolls (C : Addr) : Sp := fun vs H Q _ => ∃ (pa qa ba x : Addr) (p q : Pr) (b : Bd) (n : Nat), vs = [.ref pa, .ref qa, .ref ba, .ref x, .int n] ∧ PairAt H pa p ∧ PairAt H qa q ∧ BdAt H ba b ∧ MetAt C H x p q b ∧ PM p q ∧ BM b ∧ 0 < n ∧ n ≤ 5 ∧ ∀ H', Same H H' → Q (.bl true) H'
abbrev lUnrolls : Stmt := top 45
abbrev n_ur : List Str := ["_law_place", "_law_other", "_law_bounds_here", "_law_met", "_law_copies_here", "_law_parts", "_law_amounts", "_law_far", "_law_pairs", "_law_one_here", "_law_two", "_law_pair", "_law_spot", "_law_turn"]
theorem sl_ur : FnScope n_ur ["_law_place", "_law_other", "_law_bounds_here", "_law_met", "_law_copies_here"] (defScope lUnrolls) := ⟨rfl, rfl, rfl, by decide +kernel, rfl, by decide +kernel, by decide +kernel⟩
theorem ok_ur {f fcp fic fip : Addr} {fd fdcp fdic fdip : FuncData} (F : Fun K "_law_unrolls" "_law_unrolls" lUnrolls f fd) {C fE gB gH aA gA aD gD aN gN : Addr} {fdE fdB fdH fdA fdD fdN : FuncData} (T : VTxt mg) (X : CTxt K C) (nE : En P w K mg base C fE fdE) (nB : Bn P w K mg base C gB fdB) (nH : Hn P w K mg base C gH fdH) (rA : Pn P w K mg base C "amount" (spGA C) aA gA fdA) (rD : Pn P w K mg base C "distance" (spGD C) aD gD fdD) (rN : Pn P w K mg base C "nearest" (spGN C) aN gN fdN) (dcp : Dn P w K mg base CX0 "_law_copies" ["_law_place", "_law_other", "_law_bounds_here", "_law_met", "_law_copies_here"] 8 (spCopies C) fcp fdcp) (dic : Dn P w K mg base CX0 "_law_is_count" ["_law_value"] 1 (spWhole K) fic fdic) (dip : Dn P w K mg base CX0 "_law_is_parted" ["_law_met", "_law_parts", "_law_copies_here", "_law_pair"] 5 (spParted C) fip fdip) : FnOk P w K mg base CX0 9 f fd ["_law_place", "_law_other", "_law_bounds_here", "_law_met", "_law_copies_here"] (spUnrolls C) := by
  refine F.ok sl_ur (fun vs H Q E h => ?_) (fun cdv A outer s H vs Q E hr h => ?_)
  · obtain ⟨pa, qa, ba, x, p, q, b, n, rfl, _⟩ := h
    rfl
  · obtain ⟨pa, qa, ba, x, p, q, b, n, rfl, ep, eq, eb, met, pm, bm, n0, n5, k⟩ := h
    have hr1 : Room 1 _ := hr.mono (by decide)
    have hr2 : Room 2 _ := hr.mono (by decide)
    have hr3 : Room 3 _ := hr.mono (by decide)
    have hr4 : Room 4 _ := hr.mono (by decide)
    have hr5 : Room 5 _ := hr.mono (by decide)
    refine ⟨_, pss_cons (ps_set (i := 5) sl_ur.nd rfl (.inr rfl) (pe_call dcp.G hr rfl dcp.g dcp.kp dcp.b .nil pass0 (pa_cons (pv 0) (pa_cons (pv 1) (pa_cons (pv 2) (pa_cons (pv 3) (pa_cons (pv 4) pa_nil))))))) (pss_cons (ps_if (pt_cmpR op_ne (pe_callB call_len_dT (by rfl) T.len PySem.boot_len (pa_cons (pv 5) pa_nil)) (pe_op op_mulW (pv 4) (pv 4)) (nomark _)) (pss_one (ps_ret pe_bl)) pss_nil) (pss_cons (ps_lock (ps_setLc (i := 6) (own := [("_law_spot", 12)]) (g := gName 12) (tt := tYes) (by rfl) sl_ur.nd rfl rfl (sw_true rfl rfl rfl (by decide +kernel)) (pi_keys (pv 5)) (blkOk_by (own := [("_law_spot", 12)]) (N := n_ur) (sc := defScope lUnrolls) (by decide +kernel)) (fun _ _ _ _ _ => pg_name (i := 12) sl_ur.nd rfl (Or.inl rfl)) (fun _ _ _ _ _ => pts_nil) (fun _ _ _ _ _ => pe_prop (pe_dget (Room.u1 hr) (pv 5) (pv 12) (fun _ _ => rfl)) X.cl rA.h rA.G hr2 rA.b .nil pass0 rfl))) (pss_cons (ps_if (pt_cmpR op_in_seq pe_non (pv 6) (by rfl)) (pss_one (ps_if (pt_cmpR op_notN (pe_prop (pv 3) X.cl rA.h rA.G hr2 rA.b .nil pass0 rfl) pe_non (nomark _)) (pss_one (ps_ret pe_bl)) pss_nil)) (pss_one (ps_if (PW.pt (pw_or (pt_not (pt_val (pe_call dic.G hr1 rfl dic.g dic.kp dic.b .nil pass0 (pa_cons (pe_prop (pv 3) X.cl rA.h rA.G hr2 rA.b .nil pass0 rfl) pa_nil)))) (pw_or1 (pt_cmpR op_ne (pe_prop (pv 3) X.cl rA.h rA.G hr2 rA.b .nil pass0 rfl) (pe_callB (cr_sum rfl) (by rfl) T.sum (by decide +kernel) (pa_cons (pv 6) pa_nil)) (nomark _))))) (pss_one (ps_ret pe_bl)) pss_nil))) (pss_cons (ps_lock (ps_setLc (i := 7) (own := [("_law_spot", 12)]) (g := gName 12) (by rfl) sl_ur.nd rfl rfl (sw_true rfl rfl rfl (by decide +kernel)) (pi_keys (pv 5)) (blkOk_by (own := [("_law_spot", 12)]) (N := n_ur) (sc := defScope lUnrolls) (by decide +kernel)) (fun _ _ _ _ _ => pg_name (i := 12) sl_ur.nd rfl (Or.inl rfl)) (fun _ _ _ _ _ => pts_one (pt_truthR (pe_dget (Room.u1 hr) (pv 5) (pv 12) (fun _ _ => rfl)) (tru_own nB.hs nB.hf nB.G nB.b rfl hr1 pass0) (fun _ => rfl))) (fun _ _ _ _ _ => pe_op op_sub (pe_op op_add (pe_op op_mulW (pv 4) (pe_prop (pe_dget (Room.u1 hr) (pv 5) (pv 12) (fun _ _ => rfl)) X.cl rD.h rD.G hr2 rD.b .nil pass0 rfl)) (pe_ix (ixt_at (K := K) rfl) (pv 12) pe_int (fun _ _ => rfl))) (pe_ix (ixt_at (K := K) rfl) (pv 12) pe_int (fun _ _ => rfl))))) (pss_cons (ps_if (pt_cmpR op_ne (pe_prop (pv 3) X.cl rD.h rD.G hr2 rD.b .nil pass0 rfl) (pe_ifExp (pt_cmpR ((op_neD hr.units)) (pv 7) (pe_lst pa_nil) (nomark _)) (pe_callB (cr_min rfl) (by rfl) T.min (by decide +kernel) (pa_cons (pv 7) pa_nil)) pe_non) (nomark _)) (pss_one (ps_ret pe_bl)) pss_nil) (pss_cons (ps_setZipN (i := 8) (blkOk_by (own := [("_law_pair", 11), ("_law_turn", 13)]) (N := n_ur) (sc := defScope lUnrolls) (by decide +kernel)) pe_int (pgn_meth0 (pv 3) X.cl nE.m nE.G hr2 nE.b) hr4 (by rfl) T.zip (by rfl) T.range (fun _ _ => rfl) (fun _ _ => rfl) sl_ur.nd rfl rfl (sw_true rfl rfl rfl (by decide +kernel))) (pss_cons (ps_expr (pe_bm PySem.F.plainAttrs_list PySem.F.slot_list_extend PySem.F.type_list_extend mt_extend (pv 8) (pa_cons (pe_ifExp (pt_truthR (pv 3) (tru_own nB.hs nB.hf nB.G nB.b rfl hr1 pass0) (fun _ => rfl)) (pe_lst (pa_cons (pe_prop (pv 3) X.cl rN.h rN.G hr2 rN.b .nil pass0 rfl) pa_nil)) (pe_lst pa_nil)) pa_nil))) (pss_cons (ps_if (pt_not (pt_val (pe_callB (cr_all (by rfl)) (by rfl) T.all (by decide +kernel) (pa_cons (pe_lc (own := [("_law_pair", 11)]) (g := gName 11) (tt := tYes) (by rfl) sl_ur.nd (pi_list (pv 8)) (blkOk_by (own := [("_law_pair", 11)]) (N := n_ur) (sc := defScope lUnrolls) (by decide +kernel)) (fun _ _ _ _ _ => pg_name (i := 11) sl_ur.nd rfl (Or.inl rfl)) (fun _ _ _ _ _ => pts_nil) (fun _ _ _ _ _ => pe_call dip.G hr5 rfl dip.g dip.kp dip.b .nil pass0 (pa_cons (pv 3) (pa_cons (pv 5) (pa_cons (pv 4) (pa_cons (pv 11) pa_nil)))))) pa_nil)))) (pss_one (ps_ret pe_bl)) pss_nil) (pss_cons (ps_lock (ps_for PassesOwn.never rfl (pi_keys (pv 5)) (pg_tup rfl (pgs_cons (pg_name (i := 9) sl_ur.nd rfl (.inl rfl)) (pgs_cons (pg_name (i := 10) sl_ur.nd rfl (.inl rfl)) pgs_nil))) (pss_one (ps_for PassesOwn.never rfl (pi_list (pe_zipN (blkOk_by (own := [("_law_pair", 11), ("_law_turn", 13)]) (N := n_ur) (sc := defScope lUnrolls) (by decide +kernel)) pe_int (pgn_meth0 (pe_dget (Room.u1 hr) (pv 5) (pe_tup (pa_cons (pv 9) (pa_cons (pv 10) pa_nil))) (fun _ _ => rfl)) X.cl nE.m nE.G hr2 nE.b) hr4 (by rfl) T.zip (by rfl) T.range (fun _ _ => rfl) (fun _ _ => rfl))) (pg_name (i := 11) sl_ur.nd rfl (.inl rfl)) (pss_one (ps_if (pt_cmpR ((op_notInOwn nH.hs nH.hf nH.G nH.b rfl hr3 pass0)) (pe_tup (pa_cons (pe_op op_add (pe_op op_mulW (pv 4) (pe_ix ix_tup (pv 11) pe_int (fun _ _ => rfl))) (pv 9)) (pa_cons (pe_op op_add (pe_op op_mulW (pv 4) (pe_ix ix_tup (pv 11) pe_int (fun _ _ => rfl))) (pv 10)) pa_nil))) (pv 3) (by rfl)) (pss_one (ps_ret pe_bl)) pss_nil)))))) (pss_one (ps_ret pe_bl))))))))))), ?_⟩
    have bn : B 3 (n : Int) := sm5 (by omega) (by omega)
    have ps := pm.sz
    have bo := bm.ok
    obtain ⟨dx, _, _, _, _, _, _, _, _, ex, _⟩ := id met
    refine ⟨_, rfl, _, rfl, _, rfl, _, rfl, _, rfl, pa, qa, ba, x, p, q, b, n, rfl, ep, eq, eb, met, pm, bm, n0, n5, fun D H1 kvs ac pl => ?_⟩
    have sl : kvs.length = n * n := by rw [pl.len, spots_len]
    refine ⟨_, rfl, D, kvs, rfl, ac.2.2, _, rfl, _, rfl, _, _, rfl, rfl, bn.ml bn, rfl, _, rfl, iteFe (by rw [sl]; simp) ?_⟩
    have met1 := met.same ac.1
    -- the amounts
    refine ⟨D, _, ac.2.2, trivial, fun od => ?_⟩
    have pl2 : PartL C p q b n (upd H1 D (.frz od (.dT kvs))) kvs (spots n) := pl.mono fun _ _ _ _ m => met_lock ac.2.2 m
    have fz : (upd H1 D (.frz od (.dT kvs))) D = some (.frz od (.dT kvs)) := upd_same
    have fin : ∀ H', Same (upd H1 D (.frz od (.dT kvs))) H' → Same H1 (upd H' D (.dT kvs)) := fun H' s' => unlock_same ac.2.2 s'
    generalize upd H1 D (.frz od (.dT kvs)) = H2 at pl2 fz fin ⊢
    refine ⟨_, rfl, D, od, rfl, .inr ⟨kvs, fz, fun L nL => lc_it walk_keysT (fun i H' => Acc H2 L ((((spots n).take i).map fun s => (unT p q b n s).amount).map oV) H') (Acc.start nL) (fun i H' _ a => a.1 _ _ fz) ?_ ?_⟩⟩
    · rintro i v H0 H3 hi a3 ⟨rfl, key, val, kq, hk, rfl, ekq⟩
      obtain ⟨s, y, hs, rfl, rfl, mety⟩ := pl2.at hk
      obtain ⟨y2, hv, mety2⟩ := pl2.val (List.mem_of_getElem? hs)
      have mety3 := mety2.same a3.1
      obtain ⟨dy, _, _, _, _, _, _, _, _, ey3, _⟩ := id mety3
      refine ⟨rfl, _, rfl, _, rfl, D, .ref y2, rfl, .inr ⟨kvs, keyOf s, kq, .inr ⟨od, a3.1 _ _ fz⟩, rfl, ekq, hv.symm⟩, y2, dy, _, rfl, ey3, y2, _, _, _, rfl, mety3, _, a3.2.2, ?_, ?_⟩
      · have h1 := List.length_take_le i (spots n)
        have h2 := spots_len n
        have h3 : n * n ≤ 5 * 5 := Nat.mul_le_mul n5 n5
        rw [List.length_map, List.length_map]
        have h4 : (List.take i (spots n)).length ≤ (spots n).length := List.length_take_le' ..
        exact Nat.lt_of_le_of_lt (show _ ≤ 25 by omega) (by decide)
      · rw [take_step hs, List.map_append, List.map_append]
        exact a3.put
    rintro H3 a3
    rw [List.take_of_length_le (by rw [← pl.len]; exact Nat.le_refl _)] at a3
    refine ⟨a3.1 _ _ fz, ?_⟩
    have s14 := fin H3 a3.1
    have eL := list_lock (o := .dT kvs) a3 fz
    have eD : (upd H3 D (.dT kvs)) D = some (.dT kvs) := upd_same
    generalize upd H3 D (.dT kvs) = H4 at s14 eL eD ⊢
    clear a3 pl2 fz fin nL
    have pl4 := pl.mono fun _ _ _ _ m => m.same s14
    have met4 := met1.same s14
    have ex4 := s14 _ _ (ac.1 _ _ ex)
    generalize hos : (spots n).map (fun s => (unT p q b n s).amount) = os at eL
    dsimp only
    refine seq_if (fun σ' H' => H' = H4 ∧ σ' = [some (.ref pa), some (.ref qa), some (.ref ba), some (.ref x), some (.int n), some (.ref D), some (.ref L), none, none, none, none, none, none, none]) (fun D' _ kd => ?_) ?_
    · have fl : ∀ o : Option Int, flatV (oV o) = true := fun o => by cases o <;> rfl
      refine ⟨_, rfl, L, _, rfl, .inl (SqL.of eL), rfl, by simp [fl], _, rfl, ?_⟩
      rw [in_non]
      cases hc : os.any Option.isNone with
      | true =>
        have ha : (told p q b).amount = none := by
          obtain ⟨o, ho, hn⟩ := List.any_eq_true.mp hc
          rw [← hos] at ho
          obtain ⟨s, hs, rfl⟩ := List.mem_map.mp ho
          exact un_endless n0 pm.nz bm.l0 bm.f0 hs (Option.isNone_iff_eq_none.mp hn)
        exact iteTe rfl ⟨_, rfl, x, dx, _, rfl, ex4, x, p, q, b, rfl, met4, rfl, _, rfl, iteFe (by rw [ha]; rfl) (kd _ _ ⟨rfl, rfl⟩)⟩
      | false =>
        have hm : ∀ s ∈ spots n, (unT p q b n s).amount = some ((unT p q b n s).amount.getD 0) := fun s hs => by
          have z := List.any_eq_false.mp hc _ (by rw [← hos]; exact List.mem_map_of_mem (f := fun s => (unT p q b n s).amount) hs)
          cases hz : (unT p q b n s).amount with
          | none => rw [hz] at z; exact absurd rfl z
          | some y => rfl
        have ha := un_amount n0 pm.nz bm.l0 bm.f0 hm
        have eL2 : H4 L = some (.lst (((spots n).map fun s => (unT p q b n s).amount.getD 0).map V.int)) := by
          rw [eL, ← hos, List.map_map, List.map_map]
          congr 2
          refine List.map_congr_left fun s hs => ?_
          show oV (unT p q b n s).amount = V.int ((unT p q b n s).amount.getD 0)
          rw [hm s hs]
          rfl
        have it : Item K H4 (oV (told p q b).amount) (some ((spots n).map fun s => (unT p q b n s).amount.getD 0).sum) := by
          rw [ha]
          exact .int _
        refine iteFe rfl ⟨_, rfl, x, dx, _, rfl, ex4, x, p, q, b, rfl, met4, _, _, rfl, it, _, rfl, iteF ⟨_, rfl, x, dx, _, rfl, ex4, x, p, q, b, rfl, met4, _, rfl, L, _, rfl, SqL.of eL2, (by rw [ha]; rfl), _, rfl, iteFe (by rw [ha]; simp [oV]) (kd _ _ ⟨rfl, rfl⟩)⟩⟩
    rintro σ' H5 ⟨rfl, rfl⟩
    clear eL hos os
    -- the least distances
    refine ⟨D, _, eD, trivial, fun od2 => ?_⟩
    have pl6 : PartL C p q b n (upd H5 D (.frz od2 (.dT kvs))) kvs (spots n) := pl4.mono fun _ _ _ _ m => met_lock eD m
    have fz : (upd H5 D (.frz od2 (.dT kvs))) D = some (.frz od2 (.dT kvs)) := upd_same
    have fin : ∀ H', Same (upd H5 D (.frz od2 (.dT kvs))) H' → Same H5 (upd H' D (.dT kvs)) := fun H' s' => unlock_same eD s'
    generalize upd H5 D (.frz od2 (.dT kvs)) = H6 at pl6 fz fin ⊢
    refine ⟨_, rfl, D, od2, rfl, .inr ⟨kvs, fz, fun L2 nL2 => lc_it (tt := ttOwn C (tDGet (tVar 5) (tVar 12))) walk_keysT (fun i H' => Acc H6 L2 ((((spots n).take i).filterMap (unD p q b n)).map V.int) H') (Acc.start nL2) (fun i H' _ a => a.1 _ _ fz) ?_ ?_⟩⟩
    · rintro i v H0 H7 hi a3 ⟨rfl, key, val, kq, hk, rfl, ekq⟩
      obtain ⟨s, y, hs, rfl, rfl, mety⟩ := pl6.at hk
      have ms := List.mem_of_getElem? hs
      obtain ⟨y2, hv, mety2⟩ := pl6.val ms
      have mety3 := mety2.same a3.1
      obtain ⟨dy, _, _, _, _, _, _, _, _, ey3, _⟩ := id mety3
      have ekq : PairAt H7 kq s := ekq
      have fz7 := a3.1 _ _ fz
      refine ⟨rfl, _, rfl, _, rfl, D, .ref y2, rfl, .inr ⟨kvs, keyOf s, kq, .inr ⟨od2, fz7⟩, rfl, ekq, hv.symm⟩, y2, dy, _, rfl, ey3, y2, _, _, _, rfl, mety3, _, rfl, ?_⟩
      cases hn : (unT p q b n s).near with
      | none =>
        refine iteFe rfl ?_
        rw [take_step hs, List.filterMap_append, List.filterMap_cons_none (by unfold unD; rw [hn]; rfl), List.filterMap_nil, List.append_nil]
        exact a3
      | some e =>
        obtain ⟨a1, a2, a3', a4⟩ := mem_spots.mp ms
        obtain ⟨e1, e2⟩ := near_sz (un_sz pm n0 n5 a1 a2 a3' a4) (unB_ok bm n0 n5 a1 a2 a3' a4) hn
        have hd : distOf (told (unP n s.1 p) (unP n s.2 q) (unB n s.1 s.2 b)) = some (e.2 - e.1) := by
          unfold distOf
          rw [show (told (unP n s.1 p) (unP n s.2 q) (unB n s.1 s.2 b)).near = some e from hn]
          rfl
        refine iteTe rfl ?_
        refine ⟨_, rfl, _, rfl, _, rfl, D, .ref y2, rfl, .inr ⟨kvs, keyOf s, kq, .inr ⟨od2, fz7⟩, rfl, ekq, hv.symm⟩, y2, dy, _, rfl, ey3, y2, _, _, _, rfl, mety3, n, e.2 - e.1, rfl, (by rw [hd]; rfl), bn.ml (e2.sub e1), ?_⟩
        refine ⟨_, rfl, kq, _, 1, _, rfl, rfl, SqT.of ekq, atI_nat (j := 1) rfl, _, _, rfl, rfl, _, rfl, kq, _, 0, _, rfl, rfl, SqT.of ekq, atI_nat (j := 0) rfl, _, _, rfl, rfl, _, a3.2.2, ?_, ?_⟩
        · have h2 := spots_len n
          have h3 : n * n ≤ 5 * 5 := Nat.mul_le_mul n5 n5
          rw [List.length_map]
          have h4 : (List.take i (spots n)).length ≤ (spots n).length := List.length_take_le' ..
          have h5 : (List.filterMap (unD p q b n) (List.take i (spots n))).length ≤ (List.take i (spots n)).length := List.length_filterMap_le ..
          exact Nat.lt_of_le_of_lt (show _ ≤ 25 by omega) (by decide)
        · rw [take_step hs, List.filterMap_append, List.filterMap_cons_some (show unD p q b n s = some (n * (e.2 - e.1) + s.2 - s.1) by unfold unD; rw [hn]; rfl), List.filterMap_nil, List.map_append]
          exact a3.put
    rintro H7 a3
    rw [List.take_of_length_le (by rw [← pl.len]; exact Nat.le_refl _)] at a3
    refine ⟨a3.1 _ _ fz, ?_⟩
    have s58 := fin H7 a3.1
    have eL := list_lock (o := .dT kvs) a3 fz
    have eD8 : (upd H7 D (.dT kvs)) D = some (.dT kvs) := upd_same
    generalize upd H7 D (.dT kvs) = H8 at s58 eL eD8 ⊢
    clear a3 pl6 fz fin nL2
    have pl8 := pl4.mono fun _ _ _ _ m => m.same s58
    have met8 := met4.same s58
    have ex8 := s58 _ _ ex4
    generalize hfar : (spots n).filterMap (unD p q b n) = far at eL
    have dist0 : far = [] → distOf (told p q b) = none := fun hf => by
      cases hn : (told p q b).near with
      | none =>
        unfold distOf
        rw [hn]
        rfl
      | some e =>
        obtain ⟨⟨s, hs, hd⟩, _⟩ := un_dist n0 pm.nz bm.l0 bm.f0 hn
        have z : e.2 - e.1 ∈ far := by
          rw [← hfar]
          exact List.mem_filterMap.mpr ⟨s, hs, hd⟩
        rw [hf] at z
        cases z
    have dist1 : ∀ m, m ∈ far → (∀ y ∈ far, m ≤ y) → distOf (told p q b) = some m := fun m hm hl => by
      rw [← hfar] at hm
      obtain ⟨s, hs, hd⟩ := List.mem_filterMap.mp hm
      cases hn : (told p q b).near with
      | none =>
        have z := un_dist0 n0 pm.nz bm.l0 bm.f0 hn hs
        unfold unD at hd
        rw [z] at hd
        cases hd
      | some e =>
        obtain ⟨⟨s', hs', hd'⟩, low⟩ := un_dist n0 pm.nz bm.l0 bm.f0 hn
        have z := hl (e.2 - e.1) (by rw [← hfar]; exact List.mem_filterMap.mpr ⟨s', hs', hd'⟩)
        have y := low s hs m hd
        unfold distOf
        rw [hn]
        show some (e.2 - e.1) = some m
        exact congrArg some (by omega)
    dsimp only
    refine seq_if (fun σ' H' => Same H8 H' ∧ σ' = [some (.ref pa), some (.ref qa), some (.ref ba), some (.ref x), some (.int n), some (.ref D), some (.ref L), some (.ref L2), none, none, none, none, none, none]) (fun D' _ kd => ?_) ?_
    · refine ⟨_, rfl, x, dx, _, rfl, ex8, x, p, q, b, rfl, met8, _, rfl, n_line, fun z nz => ?_⟩
      obtain ⟨H9, z9, s9, e9⟩ := mk_at (o := .lst []) nz
      rw [z9]
      refine ⟨_, _, .lst (SqL.of (s9 _ _ eL)) (ints_dp far), .lst (SqL.of e9) .nil, ints_shaped far, by decide +kernel, _, rfl, ?_⟩
      cases far with
      | nil => exact iteFe rfl ⟨(by rw [dist0 rfl]; rfl), _, rfl, iteFe (by rw [dist0 rfl]; rfl) (kd _ _ ⟨s9, rfl⟩)⟩
      | cons f0 fs =>
        refine iteTe rfl ⟨_, rfl, L2, f0 :: fs, rfl, SqL.of (s9 _ _ eL), (by simp), fun m hm hl => ?_⟩
        have hd := dist1 m hm hl
        exact ⟨(by rw [hd]; rfl), _, rfl, iteFe (by rw [hd]; simp [oV]) (kd _ _ ⟨s9, rfl⟩)⟩
    clear dist0 dist1 hfar eL
    rintro σ' Ha ⟨sa, rfl⟩
    have meta' := met8.same sa
    have pla := pl8.mono fun _ _ _ _ m => m.same sa
    have eDa := sa _ _ eD8
    have exa := sa _ _ ex8
    have s0a : Same H Ha := ac.1.trans (s14.trans (s58.trans sa))
    clear met8 pl8 eD8 ex8 sa s58 s14 met4 pl4 eD ex4 met1 met ex
    -- the first pairs and the nearest one
    refine ⟨3, rfl, by decide, by decide, by decide, _, rfl, x, dx, _, rfl, exa, rfl, x, p, q, b, rfl, meta', ps, bo, by decide, by decide, fun ys Hb sb ro L3 nL3 => ?_⟩
    obtain ⟨Hc, zc, sc, ec⟩ := mk_at (o := .lst ys) nL3
    rw [zc]
    have sac := sb.trans sc
    have ro := Rows.tt ro (.of sc)
    have metc := meta'.same sac
    have exc := sac _ _ exa
    have row : ∀ i v, ys[i]? = some v → ∃ a e, v = V.ref a ∧ PairAt Hc a e ∧ Good p q b e ∧ B 1100 e.1 ∧ B 1100 e.2 := fun i v hv => by
      obtain ⟨a, e, rfl, ne, ea⟩ := ro.at_ i v hv
      have := (List.getElem?_eq_some_iff.mp hv).1
      have := ro.len
      obtain ⟨h1, h2⟩ := nth_sz ps bo (by omega) ne
      exact ⟨a, e, rfl, ea, (told_spec b pm.nz).each.good i e ne, h1, h2⟩
    have lys := ro.len
    have nL3a : Ha L3 = none := same_none sb nL3
    rw [gName_eq]
    dsimp only
    refine seq_drop (fun H' => ∃ zs : List V, Same Ha H' ∧ H' L3 = some (.lst zs) ∧ zs.length ≤ 4 ∧ ∀ (i : Nat) (v : V), zs[i]? = some v → ∃ a e, v = V.ref a ∧ PairAt H' a e ∧ Good p q b e ∧ B 1100 e.1 ∧ B 1100 e.2) (fun Q kq => ?_) ?_
    · refine ⟨_, rfl, .inl ⟨rfl, _, SqL.of ec⟩, _, rfl, x, dx, _, rfl, exc, x, p, q, b, rfl, metc, _, rfl, ?_⟩
      cases hn : (told p q b).near with
      | none =>
        refine iteFe rfl ⟨n_line, fun zl nz => ?_⟩
        have s1 := grow (o := HO.lst []) nz
        refine ⟨L3, zl, ys, [], rfl, rfl, s1 _ _ ec, upd_same, Nat.le_of_lt (Nat.lt_of_le_of_lt (show _ ≤ 25 by simp; omega) (by decide)), kq _ _ ⟨ys ++ [], same_off (sac.trans s1) nL3a, upd_same, by simp; omega, fun i v hv => ?_⟩⟩
        rw [List.append_nil] at hv
        obtain ⟨a, e, rfl, h1, h2⟩ := row i v hv
        exact ⟨a, e, rfl, (h1.same s1).tt (TT.put (s1 _ _ ec)), h2⟩
      | some e0 =>
        obtain ⟨g1, g2⟩ := near_sz ps bo hn
        refine iteTe rfl ⟨_, rfl, x, dx, _, rfl, exc, x, p, q, b, rfl, metc, fun v hv => ?_⟩
        rw [hn] at hv
        obtain ⟨av, rfl, eav⟩ := hv
        refine ⟨n_line, fun zl nz => ?_⟩
        have s1 := grow (o := HO.lst [V.ref av]) nz
        refine ⟨L3, zl, ys, [V.ref av], rfl, rfl, s1 _ _ ec, upd_same, Nat.le_of_lt (Nat.lt_of_le_of_lt (show _ ≤ 25 by simp; omega) (by decide)), kq _ _ ⟨ys ++ [V.ref av], same_off (sac.trans s1) nL3a, upd_same, by simp; omega, fun i v hv => ?_⟩⟩
        by_cases c : i < ys.length
        · rw [List.getElem?_append_left c] at hv
          obtain ⟨a, e, rfl, h1, h2⟩ := row i v hv
          exact ⟨a, e, rfl, (h1.same s1).tt (TT.put (s1 _ _ ec)), h2⟩
        · rw [List.getElem?_append_right (by omega)] at hv
          have hv2 := List.mem_of_getElem? hv
          obtain rfl := List.mem_singleton.mp hv2
          exact ⟨av, e0, rfl, (PairAt.same eav s1).tt (TT.put (s1 _ _ ec)), ((told_spec b pm.nz).near e0 hn).1, g1, g2⟩
    rintro Hd ⟨zs, sd, ed, lz, rowd⟩
    clear row ro ec sac sb sc metc exc zc
    have metd := meta'.same sd
    have pld := pla.mono fun _ _ _ _ m => m.same sd
    have eDd := sd _ _ eDa
    have exd := sd _ _ exa
    have s0d := s0a.trans sd
    clear meta' pla eDa exa sd s0a nL3a nL3
    -- each in its copies
    refine ⟨_, rfl, L3, rfl, ⟨_, SqL.of ed⟩, fun L4 nL4 => lc_list (K := K) (a := L3) (xs := zs) (fun i H' => Acc Hd L4 ((List.replicate i true).map V.bl) H') (Acc.start nL4) (fun i H' _ a => SqL.of (a.1 _ _ ed)) ?_ ?_⟩
    · intro i v H5 hy a1
      obtain ⟨a, e, rfl, ea, g, g1, g2⟩ := rowd i v hy
      refine ⟨rfl, _, rfl, _, rfl, _, rfl, _, rfl, .ref x, D, a, kvs, p, q, e, b, n, rfl, a1.1 _ _ eDd, pld.mono fun _ _ _ _ m => m.same a1.1, pm, bm, n0, n5, ea.same a1.1, g, g1, g2, fun H6 s6 => ⟨_, (a1.on s6).2.2, ?_, ?_⟩⟩
      · have := (List.getElem?_eq_some_iff.mp hy).1
        rw [List.length_map, List.length_replicate]
        exact Nat.lt_of_lt_of_le (by omega : i < 4) (by decide)
      · rw [List.replicate_succ', List.map_append]
        exact (a1.on s6).put
    intro He ae
    refine ⟨L4, _, rfl, SqL.of ae.2.2, _, rfl, ?_⟩
    have al : (List.replicate zs.length true).all id = true := by simp
    rw [al]
    refine iteF ?_
    have mete := metd.same ae.1
    have ple := pld.mono fun _ _ _ _ m => m.same ae.1
    have eDe := ae.1 _ _ eDd
    have exe := ae.1 _ _ exd
    have s0e := s0d.trans ae.1
    clear metd pld eDd exd s0d ae al rowd ed
    -- the first pairs of each copy
    refine ⟨D, _, eDe, trivial, fun od3 => ?_⟩
    have plf : PartL C p q b n (upd He D (.frz od3 (.dT kvs))) kvs (spots n) := ple.mono fun _ _ _ _ m => met_lock eDe m
    have metf : MetAt C (upd He D (.frz od3 (.dT kvs))) x p q b := met_lock eDe mete
    have fz : (upd He D (.frz od3 (.dT kvs))) D = some (.frz od3 (.dT kvs)) := upd_same
    have fin : ∀ H', Same (upd He D (.frz od3 (.dT kvs))) H' → Same H (upd H' D (.dT kvs)) := fun H' s' => s0e.trans (unlock_same eDe s')
    generalize upd He D (.frz od3 (.dT kvs)) = Hf at plf metf fz fin ⊢
    obtain ⟨dx2, _, _, _, _, _, _, _, _, exf, _⟩ := id metf
    refine ⟨_, rfl, D, od3, rfl, .inr ⟨kvs, fz, ?_⟩⟩
    refine for_it walk_keysT (fun i σ H' => ∃ v9 v10 v11 : Option V, σ = [some (.ref pa), some (.ref qa), some (.ref ba), some (.ref x), some (.int n), some (.ref D), some (.ref L), some (.ref L2), some (.ref L3), v9, v10, v11, none, none] ∧ Same Hf H') ⟨_, _, _, rfl, Same.refl _⟩ (fun i σ H' _ ⟨_, _, _, _, s'⟩ => s' _ _ fz) ?_ ?_
    · rintro i v σ H0 Hg hi ⟨v9, v10, v11, rfl, sg⟩ ⟨rfl, key, val, kq, hk, rfl, ekq⟩
      obtain ⟨s, y, hs, rfl, rfl, mety⟩ := plf.at hk
      have ms := List.mem_of_getElem? hs
      obtain ⟨y2, hv, mety2⟩ := plf.val ms
      obtain ⟨a1, a2, a3, a4⟩ := mem_spots.mp ms
      have us := un_sz pm n0 n5 a1 a2 a3 a4
      have uo := unB_ok bm n0 n5 a1 a2 a3 a4
      have ekq : PairAt Hg kq s := ekq
      refine ⟨kq, _, rfl, SqT.of ekq, rfl, _, _, rfl, _, _, rfl, rfl, ?_⟩
      refine ⟨2, rfl, by decide, by decide, by decide, _, rfl, _, rfl, _, rfl, n_line, fun w2 nw2 => ?_⟩
      obtain ⟨Hh, zh, sh, eh⟩ := mk_at (o := .tup [V.int s.1, V.int s.2]) nw2
      rw [zh]
      have sfh := sg.trans sh
      have metyh := mety2.same sfh
      obtain ⟨dy, _, _, _, _, _, _, _, _, eyh, _⟩ := id metyh
      refine ⟨D, .ref y2, rfl, .inr ⟨kvs, keyOf s, w2, .inr ⟨od3, sfh _ _ fz⟩, rfl, eh, hv.symm⟩, y2, dy, _, rfl, eyh, rfl, y2, _, _, _, rfl, metyh, us, uo, by decide, by decide, fun ys5 Hi si ro L5 nL5 => ?_⟩
      obtain ⟨Hj, zj, sj, ej⟩ := mk_at (o := .lst ys5) nL5
      rw [zj]
      have sfj := sfh.trans (si.trans sj)
      have ro := Rows.tt ro (.of sj)
      refine ⟨L5, rfl, ⟨_, SqL.of ej⟩, for_list (K := K) (a := L5) (xs := ys5) (fun j σ H' => ∃ v11 : Option V, σ = [some (.ref pa), some (.ref qa), some (.ref ba), some (.ref x), some (.int n), some (.ref D), some (.ref L), some (.ref L2), some (.ref L3), some (.int s.1), some (.int s.2), v11, none, none] ∧ Same Hj H')
        ⟨_, rfl, Same.refl _⟩ (fun j σ H' _ ⟨_, _, s'⟩ => s'.seq (SqL.of ej)) ?_ ?_⟩
      · rintro j v σ Hk hj ⟨w11, rfl, sk⟩
        obtain ⟨a, e, rfl, ne, ea⟩ := ro.at_ j v hj
        have jl : j < 2 := by
          have := (List.getElem?_eq_some_iff.mp hj).1
          have := ro.len
          omega
        obtain ⟨b1, b2⟩ := nth_sz us uo (by omega) ne
        have g0 := (told_spec (unB n s.1 s.2 b) (p := unP n s.1 p) (q := unP n s.2 q) us.nz).each.good j e ne
        have g := (un_good (by omega) a1 a2 a3 a4 bm.l0 bm.f0 e).mp g0
        have ea := ea.same sk
        have c1 : B 3 s.1 := sm5 a1 (by omega)
        have c2 : B 3 s.2 := sm5 a3 (by omega)
        refine ⟨_, rfl, _, rfl, a, _, 0, _, rfl, rfl, SqT.of ea, atI_nat (j := 0) rfl, _, _, rfl, rfl, bn.ml b1, _, rfl, _, _, rfl, rfl, _, rfl, _, rfl, a, _, 1, _, rfl, rfl, SqT.of ea, atI_nat (j := 1) rfl, _, _, rfl, rfl, bn.ml b2, _, rfl, _, _, rfl, rfl, n_line, fun w3 nw3 => ?_⟩
        obtain ⟨Hl, zl, sl2, el⟩ := mk_at (o := .tup [V.int (n * e.1 + s.1), V.int (n * e.2 + s.2)]) nw3
        rw [zl]
        have sjl := sk.trans sl2
        have sfl := sfj.trans sjl
        refine ⟨_, rfl, x, dx2, _, rfl, sfl _ _ exf, x, w3, p, q, b, (n * e.1 + s.1, n * e.2 + s.2), rfl, metf.same sfl, el, ps, ((bn.mul b1).add c1.up).up, ((bn.mul b2).add c2.up).up, fun Hm sm => ⟨_, rfl, _, rfl, iteFe ?_ ?_⟩⟩
        · rw [decide_eq_true g]
          rfl
        · exact ⟨_, rfl, sjl.trans sm⟩
      · rintro σ Hk ⟨w11, rfl, sk⟩
        exact ⟨_, _, _, rfl, sfj.trans sk⟩
    · rintro σ Hg ⟨v9, v10, v11, rfl, sg⟩
      exact ⟨sg _ _ fz, k _ (fin Hg sg)⟩
end
end K14
namespace K14
open PySem L2
open L2.My
open Met
section
variable {P : Program} {w : World} {K : PySem.W.Frag} {mg : Str → Option Value} {base : Heap}
/-! ### _law_one -/
def spOneL : Sp := fun vs H Q _ => ∃ n : Int, vs = [.int n] ∧ ∀ H', Same H H' → Q (.bl true) H'
abbrev n_on : List Str := ["_law_cell", "_law_dice_here", "_law_place", "_law_other", "_law_bounds_here", "_law_met"]
theorem sl_on : FnScope n_on ["_law_cell"] (defScope lOne) := ⟨rfl, rfl, rfl, by decide +kernel, rfl, by decide +kernel, by decide +kernel⟩
theorem ok_on {f fdi fdr fma fpl fur fnx : Addr} {fd fddi fddr fdma fdpl fdur fdnx : FuncData} (F : Fun K "_law_one" "_law_one" lOne f fd) {C : Addr} (ddi : Dn P w K mg base CX0 "_law_dice" ["_law_cell"] 1 spDice fdi fddi) (ddr : Dn P w K mg base CX0 "_law_drawn" ["_law_dice_here"] 6 spDrawn fdr fddr) (dma : Dn P w K mg base CX0 "_law_made" ["_law_place", "_law_other", "_law_bounds_here"] 7 (spMade C) fma fdma) (dpl : Dn P w K mg base CX0 "_law_peels" ["_law_place", "_law_other", "_law_bounds_here", "_law_met", "_law_dice_here"] 8 (spPeels C) fpl fdpl) (dur : Dn P w K mg base CX0 "_law_unrolls" ["_law_place", "_law_other", "_law_bounds_here", "_law_met", "_law_copies_here"] 9 (spUnrolls C) fur fdur) (dnx : Dn P w K mg base CX0 "_law_next" ["_law_dice_here", "_law_many"] 1 spNext fnx fdnx) : FnOk P w K mg base CX0 10 f fd ["_law_cell"] spOneL := by
  refine F.ok sl_on (fun vs H Q E h => ?_) (fun cdv A outer s H vs Q E hr h => ?_)
  · obtain ⟨n, rfl, _⟩ := h
    rfl
  · obtain ⟨n, rfl, k⟩ := h
    have hr1 : Room 1 _ := hr.mono (by decide)
    have hr6 : Room 6 _ := hr.mono (by decide)
    have hr7 : Room 7 _ := hr.mono (by decide)
    have hr8 : Room 8 _ := hr.mono (by decide)
    refine ⟨_, pss_cons (ps_set (i := 1) sl_on.nd rfl (.inl rfl) (pe_call ddi.G hr1 rfl ddi.g ddi.kp ddi.b .nil pass0 (pa_cons (pv 0) pa_nil))) (pss_cons (ps_asg (pe_call ddr.G hr6 rfl ddr.g ddr.kp ddr.b .nil pass0 (pa_cons (pv 1) pa_nil)) (pg_tup rfl (pgs_cons (pg_name (i := 2) sl_on.nd rfl (.inl rfl)) (pgs_cons (pg_name (i := 3) sl_on.nd rfl (.inl rfl)) (pgs_cons (pg_name (i := 4) sl_on.nd rfl (.inl rfl)) pgs_nil))))) (pss_cons (ps_set (i := 5) sl_on.nd rfl (.inl rfl) (pe_call dma.G hr7 rfl dma.g dma.kp dma.b .nil pass0 (pa_cons (pv 2) (pa_cons (pv 3) (pa_cons (pv 4) pa_nil))))) (pss_cons (ps_if (pt_not (pt_val (pe_call dpl.G hr8 rfl dpl.g dpl.kp dpl.b .nil pass0 (pa_cons (pv 2) (pa_cons (pv 3) (pa_cons (pv 4) (pa_cons (pv 5) (pa_cons (pv 1) pa_nil)))))))) (pss_one (ps_ret pe_bl)) pss_nil) (pss_one (ps_ret (pe_call dur.G hr rfl dur.g dur.kp dur.b .nil pass0 (pa_cons (pv 2) (pa_cons (pv 3) (pa_cons (pv 4) (pa_cons (pv 5) (pa_cons (pe_op op_add pe_int (pe_call dnx.G hr1 rfl dnx.g dnx.kp dnx.b .nil pass0 (pa_cons (pv 1) (pa_cons pe_int pa_nil)))) pa_nil))))))))))), ?_⟩
    refine ⟨_, rfl, n, rfl, fun d H1 nd D1 u1 => ?_⟩
    have s1 := kd_same nd u1
    refine ⟨_, rfl, d, rfl, D1, fun t H2 pa qa ba p q b k2 et ep eq eb pm bm => ?_⟩
    refine ⟨t, _, rfl, SqT.of et, rfl, _, _, rfl, _, _, rfl, _, _, rfl, rfl, ?_⟩
    have D2 := k2.dice
    have s2 := kd_on nd s1 k2
    refine ⟨_, rfl, _, rfl, _, rfl, pa, qa, ba, p, q, b, rfl, ep, eq, eb, pm.sz, bm.ok, fun x H3 s3 met => ?_⟩
    have D3 := Dice.same D2 s3
    refine ⟨_, rfl, _, rfl, _, rfl, _, rfl, _, rfl, pa, qa, ba, x, d, p, q, b, rfl, ep.same s3, eq.same s3, eb.same s3, met, pm, bm, D3, fun H4 k4 => ⟨_, rfl, iteF ?_⟩⟩
    have t4 := k4.tt D3
    have s4 := kd_on nd (s2.trans s3) k4
    refine ⟨_, rfl, _, rfl, _, rfl, _, rfl, _, rfl, d, 5, rfl, by decide, by decide, k4.dice, fun m H5 m0 m1 D5 u5 => ?_⟩
    have k5 : Kd d H4 H5 := .ob D5 u5
    have t5 := k5.tt k4.dice
    have met5 := (met.kd k4 D3).kd k5 k4.dice
    obtain ⟨j, rfl⟩ : ∃ j : Nat, m = j := ⟨m.toNat, by omega⟩
    refine ⟨_, _, rfl, rfl, pa, qa, ba, x, p, q, b, 1 + j, ?_, ((ep.same s3).tt t4).tt t5, ((eq.same s3).tt t4).tt t5, ((eb.same s3).tt t4).tt t5, met5, pm, bm, by omega, by omega, fun H6 s6 => ?_⟩
    · rfl
    · exact k H6 ((kd_on nd s4 k5).trans s6)
def spLaw (K : PySem.W.Frag) : Sp := fun vs H Q _ => ∃ (a : Addr) (ns : List Int), vs = [.ref a] ∧ SqL K H a (ns.map V.int) ∧ ns.length ≤ 63 ∧ ∀ H', Q (.bl true) H'
abbrev n_lw : List Str := ["_law_script", "_law_cell"]
theorem sl_lw : FnScope n_lw ["_law_script"] (defScope tLaw) := ⟨rfl, rfl, rfl, by decide +kernel, rfl, by decide +kernel, by decide +kernel⟩
theorem ok_lw {f fce fon : Addr} {fd fdce fdon : FuncData} (F : Fun K "law" "law" tLaw f fd)  (dce : Dn P w K mg base CX0 "_law_cells" ["_law_script", "_law_most"] 1 (spCells K) fce fdce) (don : Dn P w K mg base CX0 "_law_one" ["_law_cell"] 10 spOneL fon fdon) : FnOk P w K mg base CX0 11 f fd ["_law_script"] (spLaw K) := by
  refine F.ok sl_lw (fun vs H Q E h => ?_) (fun cdv A outer s H vs Q E hr h => ?_)
  · obtain ⟨a, ns, rfl, _⟩ := h
    rfl
  · obtain ⟨a, ns, rfl, hS, hl, k⟩ := h
    have hr1 : Room 1 _ := hr.mono (by decide)
    refine ⟨_, pss_cons (ps_for PassesOwn.never rfl (pi_list (pe_call dce.G hr1 rfl dce.g dce.kp dce.b .nil pass0 (pa_cons (pv 0) (pa_cons pe_int pa_nil)))) (pg_name (i := 1) sl_lw.nd rfl (.inl rfl)) (pss_one (ps_if (pt_not (pt_val (pe_call don.G hr rfl don.g don.kp don.b .nil pass0 (pa_cons (pv 1) pa_nil)))) (pss_one (ps_ret pe_bl)) pss_nil))) (pss_one (ps_ret pe_bl)), ?_⟩
    refine ⟨_, rfl, a, ns, rfl, hS, hl, fun l H1 xs s1 el ix => ?_⟩
    refine ⟨l, rfl, ⟨_, SqL.of el⟩, for_list (K := K) (a := l) (xs := xs) (fun j σ H' => ∃ v : Option V, σ = [some (.ref a), v] ∧ Same H1 H')
      ⟨_, rfl, Same.refl _⟩ (fun j σ H' _ ⟨_, _, s7⟩ => s7.seq (SqL.of el)) ?_ ?_⟩
    · rintro j y σ H2 hj ⟨v, rfl, s2⟩
      obtain ⟨n, rfl⟩ := ix y (List.mem_of_getElem? hj)
      exact ⟨_, rfl, n, rfl, fun H3 s3 => ⟨_, rfl, iteF ⟨_, rfl, s2.trans s3⟩⟩⟩
    · rintro σ H2 ⟨v, rfl, s2⟩
      exact k _
end
end K14
namespace K14
open PySem L2
open L2.My
open Met
structure AtTop (K : PySem.W.Frag) (x : Str) (st : Stmt) (f : Addr) (fd : FuncData) : Prop where
  ns : PySem.W.nsIn K mainGlobals x = some (some (.ref f))
  fn : Fun K x x st f fd
theorem atTop {K : PySem.W.Frag} {x : Str} {st : Stmt} {f : Addr} {oc : Value} {od an : Option Addr} {sl : Array (Option Value)} {kV dc pm cd ct : Value} (a : PySem.W.nsIn K mainGlobals x = some (some (.ref f)))
    (l : K.lookup f = some ⟨oc, od, .func (PySem.W.fnOf x x (defArgs st) (defBody st) (defScope st) .none kV dc pm an cd ct), sl⟩) (c : PySem.W.codeIn K cd x = true) (k : PySem.W.keepIn K (.ref f) = true) :
    AtTop K x st f (PySem.W.fnOf x x (defArgs st) (defBody st) (defScope st) .none kV dc pm an cd ct) := ⟨a, fun_mk (st := st) l c k⟩
/-- a method's def, and a property's -/
theorem atM {K : PySem.W.Frag} {x q : Str} {st : Stmt} {f : Addr} {oc : Value} {od an : Option Addr} {sl : Array (Option Value)} {kV dc pm cd ct : Value}
    (l : K.lookup f = some ⟨oc, od, .func (PySem.W.fnOf x q (defArgs st) (defBody st) (defScope st) .none kV dc pm an cd ct), sl⟩) (c : PySem.W.codeIn K cd q = true) (k : PySem.W.keepIn K (.ref f) = true) :
    Fun K x q st f (PySem.W.fnOf x q (defArgs st) (defBody st) (defScope st) .none kV dc pm an cd ct) := fun_mk (st := st) l c k
structure AtP (K : PySem.W.Frag) (C : Addr) (x q : Str) (st : Stmt) (p g : Addr) (fd : FuncData) : Prop where
  pr : PropOf K C x p g
  fn : Fun K x q st g fd
theorem atP {K : PySem.W.Frag} {C p g : Addr} {x q : Str} {st : Stmt} {oc : Value} {od an : Option Addr} {sl : Array (Option Value)} {kV dc pm cd ct : Value} {rest : List Value} (a : PySem.W.findIn K (.ref C) x = some (some (.ref p)))
    (b : PySem.W.specialIn K (.ref p) "__get__" = some (some (.builtin "property.__get__"))) (t : PySem.W.takesIn K (.ref p) = some true) (r : PySem.W.recIn K p "property" = some (.ref g :: rest))
    (l : K.lookup g = some ⟨oc, od, .func (PySem.W.fnOf x q (defArgs st) (defBody st) (defScope st) .none kV dc pm an cd ct), sl⟩) (c : PySem.W.codeIn K cd q = true) (k : PySem.W.keepIn K (.ref g) = true) :
    AtP K C x q st p g (PySem.W.fnOf x q (defArgs st) (defBody st) (defScope st) .none kV dc pm an cd ct) := ⟨⟨a, b, t, rest, r⟩, fun_mk (st := st) l c k⟩
/-- __init__ with its keyword-only defaults -/
theorem atI {K : PySem.W.Frag} {f D : Addr} {oc : Value} {od an : Option Addr} {sl : Array (Option Value)} {dc pm cd ct : Value} {t0 t1 : Tok}
    (l : K.lookup f = some ⟨oc, od, .func (PySem.W.fnOf "__init__" "Meetings.__init__" (defArgs mInit) (defBody mInit) (defScope mInit) .none (.ref D) dc pm an cd ct), sl⟩) (c : PySem.W.codeIn K cd "Meetings.__init__" = true) (k : PySem.W.keepIn K (.ref f) = true)
    (k0 : PySem.W.nsIn K D "low" = some (some (.int 0 t0))) (k1 : PySem.W.nsIn K D "high" = some (some .none)) (k2 : PySem.W.nsIn K D "first" = some (some (.int 0 t1))) (k3 : PySem.W.nsIn K D "rounds" = some (some .none)) :
    FunD K "__init__" "Meetings.__init__" (defArgs mInit) (defBody mInit) (defScope mInit) [] kwsI f (PySem.W.fnOf "__init__" "Meetings.__init__" (defArgs mInit) (defBody mInit) (defScope mInit) .none (.ref D) dc pm an cd ct) := by
  refine ⟨⟨oc, od, .none, .ref D, dc, pm, an, cd, ct, sl, rfl, l, c, .inl ⟨rfl, rfl⟩, .inr ⟨D, rfl, fun q hq => ?_⟩⟩, k⟩
  simp only [List.mem_cons, List.not_mem_nil, or_false] at hq
  rcases hq with rfl | rfl | rfl | rfl
  · exact ⟨_, k0, _, rfl⟩
  · exact ⟨_, k1, rfl⟩
  · exact ⟨_, k2, _, rfl⟩
  · exact ⟨_, k3, rfl⟩
def gg2 {α : Type} (vs mz zs : List α) : List α := vs ++ (match zs, mz with | [f, l], [h, r] => [l, h, f, r] | _, _ => [])
/-- how the class is called -/
theorem callM {K : PySem.W.Frag} {f : Addr} {fd : FuncData} (F : FunD K "__init__" "Meetings.__init__" (defArgs mInit) (defBody mInit) (defScope mInit) [] kwsI f fd) : CallM K fd := by
  refine ⟨?_, ?_, ?_, ?_⟩
  · refine F.binds0 (ps := pInit) 3 (by simp) rfl fun D doc pm an cdv ct us ks hu hk => ?_
    match us, ks, hu, hk with
    | [a, b, c], [d, e, f', g], _, _ => exact ⟨_, _, _, _, _, _, rfl, rfl, _, _, _, _, _, _, rfl, rfl, _, _, _, _, _, _, rfl, rfl, _, _, _, _, _, _, rfl, rfl, rfl⟩
  · obtain ⟨mv, h⟩ := F.kbinds0 (ps := pInit) 3 ["low"] [("high", .non), ("first", .int 0), ("rounds", .non)] (fun vs mz zs => vs ++ (zs ++ mz)) (by simp) (fun q hq => List.mem_cons_of_mem _ hq) (fun r1 r2 r3 => r1.append (r3.append r2))
      (fun D doc pm an cdv ct us mv ws hu hm hw => by
        match us, mv, ws, hu, hm, hw with
        | [a, b, c], [d, e, f'], [x], _, _, _ => exact ⟨_, _, _, _, _, _, rfl, rfl, _, _, _, _, _, _, rfl, rfl, _, _, _, _, _, _, rfl, rfl, rfl⟩)
    exact ⟨_, h⟩
  · obtain ⟨mv, h⟩ := F.kbinds0 (ps := pInit) 3 ["first", "low"] [("high", .non), ("rounds", .non)] gg2 (by simp)
      (fun q hq => by
        simp only [List.mem_cons, List.not_mem_nil, or_false] at hq
        rcases hq with rfl | rfl <;> simp) (fun r1 r2 r3 => r1.append (by
        cases r3 with
        | nil => exact .nil
        | cons x1 y1 =>
          cases y1 with
          | nil => exact .nil
          | cons x2 y2 =>
            cases y2 with
            | cons x3 y3 => exact .nil
            | nil =>
              cases r2 with
              | nil => exact .nil
              | cons u1 v1 =>
                cases v1 with
                | nil => exact .nil
                | cons u2 v2 =>
                  cases v2 with
                  | cons u3 v3 => exact .nil
                  | nil => exact .cons x2 (.cons u1 (.cons x1 (.cons u2 .nil)))))
      (fun D doc pm an cdv ct us mv ws hu hm hw => by
        match us, mv, ws, hu, hm, hw with
        | [a, b, c], [d, e], [x, y], _, _, _ => exact ⟨_, _, _, _, _, _, rfl, rfl, _, _, _, _, _, _, rfl, rfl, rfl⟩)
    refine ⟨_, h.to, fun {vs us zs ws} r1 r2 => ?_⟩
    have e : gV2 vs zs = gg2 vs (([("high", V.non), ("rounds", V.non)] : List (Str × V)).map (·.2)) zs := by
      unfold gV2 gg2
      match zs with
      | [] => rfl
      | [_] => rfl
      | [_, _] => rfl
      | _ :: _ :: _ :: _ => rfl
    rw [e]
    exact h.rel r1 r2
  · obtain ⟨mv, h⟩ := F.kbinds0 (ps := pInit) 3 ["low", "high", "first", "rounds"] [] (fun vs mz zs => vs ++ zs) (by simp) (fun q hq => absurd hq List.not_mem_nil) (fun r1 r2 r3 => r1.append r3)
      (fun D doc pm an cdv ct us mv ws hu hm hw => by
        match us, mv, ws, hu, hm, hw with
        | [a, b, c], [], [x, y, z, u], _, _, _ => exact rfl)
    exact ⟨_, h⟩

theorem kit_no {K : PySem.W.Frag} {C : Addr} {n : String} (ic : PySem.W.isClsIn K C = true) (ty : PySem.W.typeIn K (.ref C) = some (.type "type")) (s : PySem.W.subIn K (.type n) (.ref C) = some false) : PySem.W.kitOne K (.type n) (.ref C) = some false := by
  unfold PySem.W.kitOne
  rw [if_neg (by intro z; cases z)]
  have i2 : (PySem.W.clsIn K C).isSome = true := ic
  show (if ((PySem.W.clsIn K C).isSome && PySem.W.typeIn K (.ref C) == some (.type "type")) = true then PySem.W.subIn K (.type n) (.ref C) else none) = some false
  rw [i2, ty, if_pos (by rfl)]
  exact s
theorem capE {K : PySem.W.Frag} {t : Tok} (h : PySem.W.nsIn K mainGlobals "MAX_COPIES" = some (some (.int 24 t))) : ∃ t, PySem.W.nsIn K mainGlobals "MAX_COPIES" = some (some (.int 24 t)) := ⟨t, h⟩

structure Class (K : PySem.W.Frag) (C fI fFe fEa fBo fCo fEq fPe fUn : Addr) : Prop where
  nC : PySem.W.nsIn K mainGlobals "Meetings" = some (some (.ref C))
  t : CTxt K C
  m : Mk K C fI
  eFe : Meth K C "_find_ends" fFe
  eEa : Meth K C "each" fEa
  eBo : PySem.W.findIn K (.ref C) "__bool__" = some (some (.ref fBo)) ∧ PySem.W.isFn K (.ref fBo) = true
  eCo : PySem.W.findIn K (.ref C) "__contains__" = some (some (.ref fCo)) ∧ PySem.W.isFn K (.ref fCo) = true
  eEq : PySem.W.findIn K (.ref C) "__eq__" = some (some (.ref fEq)) ∧ PySem.W.isFn K (.ref fEq) = true
  ePe : Meth K C "peeled" fPe
  eUn : Meth K C "unrolled" fUn
  ha : PySem.W.findIn K (.ref C) "__class__" = some (some (.builtin "object.__class__"))
  hn : PySem.W.specialIn K (.builtin "object.__class__") "__get__" = some (some (.builtin "getset_descriptor.__get__"))
  htk : PySem.W.takesIn K (.builtin "object.__class__") = some true
  hm : PySem.W.mroIn K C (.type "object") = some true
  ic : PySem.W.isClsIn K C = true
  ty : PySem.W.typeIn K (.ref C) = some (.type "type")
  sT : PySem.W.subIn K (.type "tuple") (.ref C) = some false
  ne : PySem.W.findIn K (.ref C) "__ne__" = some (some (.builtin "object.__ne__"))
  cap : ∃ t, PySem.W.nsIn K mainGlobals "MAX_COPIES" = some (some (.int 24 t))
theorem all_mk {P : Program} {w : World} {K : PySem.W.Frag} {h : Heap} {mg : Str → Option Value} {fa C fI fFe fEa fBo fCo fEq fPe fUn : Addr} {tl : Tok} (X : K.In h) (G : h.Ns mainGlobals mg) (hfa : mg "law" = some (.ref fa))
    {fwh fpr fwi fwp fco fcb fdv fli faf fsl flm fsp fgo fle fem fke fdi fnx fce fgr fwd fst fma fic fbd ftr frd fbt fdr fbo fup fpl fcp fip fur fon flw : Addr} {fdwh fdpr fdwi fdwp fdco fdcb fddv fdli fdaf fdsl fdlm fdsp fdgo fdle fdem fdke fddi fdnx fdce fdgr fdwd fdst fdma fdic fdbd fdtr fdrd fdbt fddr fdbo fdup fdpl fdcp fdip fdur fdon fdlw : FuncData} {aP gP aO gO aLo gLo aHi gHi aFi gFi aRo gRo aN gN aD gD aA gA : Addr} {hP hO hLo hHi hFi hRo hN hD hA : FuncData} {fdI fdFe fdEa fdBo fdCo fdEq fdPe fdUn : FuncData} (CL : Class K C fI fFe fEa fBo fCo fEq fPe fUn) (wd : PySem.W.nsIn K mainGlobals "WIDE" = some (some (.int (10 ^ 100) tl)))
    (mIn : FunD K "__init__" "Meetings.__init__" (defArgs mInit) (defBody mInit) (defScope mInit) [] kwsI fI fdI)
    (mFe : Fun K "_find_ends" "Meetings._find_ends" mFind fFe fdFe)
    (mEa : Fun K "each" "Meetings.each" mEach fEa fdEa)
    (mBo : Fun K "__bool__" "Meetings.__bool__" mBool fBo fdBo)
    (mCo : Fun K "__contains__" "Meetings.__contains__" mCont fCo fdCo)
    (mEq : Fun K "__eq__" "Meetings.__eq__" mEq fEq fdEq)
    (mPe : Fun K "peeled" "Meetings.peeled" mPeel fPe fdPe)
    (mUn : Fun K "unrolled" "Meetings.unrolled" mUnr fUn fdUn)
    (pP : AtP K C "place" "Meetings.place" mPlace aP gP hP) (pO : AtP K C "other" "Meetings.other" mOther aO gO hO) (pLo : AtP K C "low" "Meetings.low" mLow aLo gLo hLo) (pHi : AtP K C "high" "Meetings.high" mHigh aHi gHi hHi) (pFi : AtP K C "first" "Meetings.first" mFirst aFi gFi hFi) (pRo : AtP K C "rounds" "Meetings.rounds" mRounds aRo gRo hRo) (pN : AtP K C "nearest" "Meetings.nearest" mNearest aN gN hN) (pD : AtP K C "distance" "Meetings.distance" mDist aD gD hD) (pA : AtP K C "amount" "Meetings.amount" mAmt aA gA hA)
    (dwh : AtTop K "is_whole" tWhole fwh fdwh) (dpr : AtTop K "is_pair" tPair fpr fdpr) (dwi : AtTop K "is_wide" tWideI fwi fdwi) (dwp : AtTop K "is_wide_place" tWidePl fwp fdwp) (dco : AtTop K "check_counter" tCounter fco fdco) (dcb : AtTop K "check_bounds" tChkB fcb fdcb) (ddv : AtTop K "divisor_of" tDiv fdv fddv) (dli : AtTop K "line_of" tLine fli fdli) (daf : AtTop K "after" tAfter faf fdaf) (dsl : AtTop K "slacks" tSlacks fsl fdsl) (dlm : AtTop K "limits_of" tLimits flm fdlm) (dsp : AtTop K "span_of" tSpan fsp fdsp) (dgo : AtTop K "goes_up" tGoes fgo fdgo) (dle : AtTop K "least_by" tLeast fle fdle) (dem : AtTop K "empty_paper" tEmpty fem fdem) (dke : AtTop K "keeps_all" tKeeps fke fdke) (ddi : AtTop K "_law_dice" tDice fdi fddi) (dnx : AtTop K "_law_next" tNextD fnx fdnx) (dce : AtTop K "_law_cells" tCells fce fdce) (dgr : AtTop K "_law_great" tGreat fgr fdgr) (dwd : AtTop K "_law_whole" tWholeD fwd fdwd) (dst : AtTop K "_law_steps" lSteps fst fdst) (dma : AtTop K "_law_made" lMade fma fdma) (dic : AtTop K "_law_is_count" lCount fic fdic) (dbd : AtTop K "_law_bounds" lBounds fbd fdbd) (dtr : AtTop K "_law_is_truth" lTruth ftr fdtr) (drd : AtTop K "_law_round" lRound frd fdrd) (dbt : AtTop K "_law_built" lBuilt fbt fdbt) (ddr : AtTop K "_law_drawn" lDrawn fdr fddr) (dbo : AtTop K "_law_bounds_of" lBndOf fbo fdbo) (dup : AtTop K "_law_up" lUp fup fdup) (dpl : AtTop K "_law_peels" lPeels fpl fdpl) (dcp : AtTop K "_law_copies" lCopies fcp fdcp) (dip : AtTop K "_law_is_parted" lIsParted fip fdip) (dur : AtTop K "_law_unrolls" lUnrolls fur fdur) (don : AtTop K "_law_one" lOne fon fdon) (dlw : AtTop K "law" tLaw flw fdlw)
    (z0 : PySem.W.nsIn K mainGlobals "isinstance" = some none) (z1 : PySem.W.nsIn K mainGlobals "int" = some none) (z2 : PySem.W.nsIn K mainGlobals "bool" = some none) (z3 : PySem.W.nsIn K mainGlobals "tuple" = some none) (z4 : PySem.W.nsIn K mainGlobals "len" = some none) (z5 : PySem.W.nsIn K mainGlobals "abs" = some none) (z6 : PySem.W.nsIn K mainGlobals "max" = some none) (z7 : PySem.W.nsIn K mainGlobals "range" = some none) (z8 : PySem.W.nsIn K mainGlobals "list" = some none) (z9 : PySem.W.nsIn K mainGlobals "zip" = some none) (z10 : PySem.W.nsIn K mainGlobals "min" = some none) (z11 : PySem.W.nsIn K mainGlobals "sum" = some none) (z12 : PySem.W.nsIn K mainGlobals "all" = some none)
    (hb : ∀ (s : Shared) (v : Value), BindsTo s fdlw ⟨[v], []⟩ [("_law_script", v)]) :
    ∃ fd : FuncData, (∀ (s : Shared) (v : Value), BindsTo s fd ⟨[v], []⟩ [("_law_script", v)]) ∧ ∀ base : Heap, K.In base → base.Ns mainGlobals mg → FnOk P w K mg base CX0 11 fa fd ["_law_script"] (spLaw K) := by
  have e := hfa.symm.trans (PySem.W.mg_of X G dlw.ns)
  cases e
  refine ⟨fdlw, hb, fun base _ _ => ?_⟩
  have TX : Txt K mg := ⟨(PySem.W.mg_none_of X G z0), (PySem.W.mg_none_of X G z1), (PySem.W.mg_none_of X G z2), (PySem.W.mg_none_of X G z3), (PySem.W.mg_none_of X G z4), tl, PySem.W.mg_of X G wd⟩
  have TB : Bl mg := ⟨(PySem.W.mg_none_of X G z1), (PySem.W.mg_none_of X G z5), (PySem.W.mg_none_of X G z6), (PySem.W.mg_none_of X G z7), (PySem.W.mg_none_of X G z8), (PySem.W.mg_none_of X G z4)⟩
  have TD : DTxt mg := ⟨(PySem.W.mg_none_of X G z9), (PySem.W.mg_none_of X G z3)⟩
  have TM : MTxt mg := ⟨(PySem.W.mg_none_of X G z6), (PySem.W.mg_none_of X G z10)⟩
  have TU : UTxt mg := ⟨(PySem.W.mg_none_of X G z6)⟩
  have TP : PTxt mg := ⟨(PySem.W.mg_none_of X G z6), (PySem.W.mg_none_of X G z9), (PySem.W.mg_none_of X G z7)⟩
  have TG : RTxt mg := ⟨(PySem.W.mg_none_of X G z6), (PySem.W.mg_none_of X G z7)⟩
  have TS : STxt mg := ⟨(PySem.W.mg_none_of X G z1)⟩
  have TV : VTxt mg := ⟨(PySem.W.mg_none_of X G z4), (PySem.W.mg_none_of X G z11), (PySem.W.mg_none_of X G z10), (PySem.W.mg_none_of X G z12), (PySem.W.mg_none_of X G z9), (PySem.W.mg_none_of X G z7)⟩
  have T := CL.t
  have gC : mg "Meetings" = some (.ref C) := PySem.W.mg_of X G CL.nC
  have M := CL.m
  have CM := callM mIn
  have rP : Pn P w K mg base C "place" (spGP C) aP gP hP := ⟨ok_gP pP.fn T, pP.pr, pP.fn.binds (ps := ["self"]) fun _ _ _ _ _ _ us hl => match us, hl with | [_], _ => rfl⟩
  have rO : Pn P w K mg base C "other" (spGO C) aO gO hO := ⟨ok_gO pO.fn T, pO.pr, pO.fn.binds (ps := ["self"]) fun _ _ _ _ _ _ us hl => match us, hl with | [_], _ => rfl⟩
  have rLo : Pn P w K mg base C "low" (spGB C (fun b => .int b.low)) aLo gLo hLo := ⟨ok_gLo pLo.fn T, pLo.pr, pLo.fn.binds (ps := ["self"]) fun _ _ _ _ _ _ us hl => match us, hl with | [_], _ => rfl⟩
  have rHi : Pn P w K mg base C "high" (spGB C (fun b => oV b.high)) aHi gHi hHi := ⟨ok_gHi pHi.fn T, pHi.pr, pHi.fn.binds (ps := ["self"]) fun _ _ _ _ _ _ us hl => match us, hl with | [_], _ => rfl⟩
  have rFi : Pn P w K mg base C "first" (spGB C (fun b => .int b.first)) aFi gFi hFi := ⟨ok_gFi pFi.fn T, pFi.pr, pFi.fn.binds (ps := ["self"]) fun _ _ _ _ _ _ us hl => match us, hl with | [_], _ => rfl⟩
  have rRo : Pn P w K mg base C "rounds" (spGB C (fun b => oV b.rounds)) aRo gRo hRo := ⟨ok_gRo pRo.fn T, pRo.pr, pRo.fn.binds (ps := ["self"]) fun _ _ _ _ _ _ us hl => match us, hl with | [_], _ => rfl⟩
  have rN : Pn P w K mg base C "nearest" (spGN C) aN gN hN := ⟨ok_gN pN.fn T, pN.pr, pN.fn.binds (ps := ["self"]) fun _ _ _ _ _ _ us hl => match us, hl with | [_], _ => rfl⟩
  have rD : Pn P w K mg base C "distance" (spGD C) aD gD hD := ⟨ok_gD pD.fn T, pD.pr, pD.fn.binds (ps := ["self"]) fun _ _ _ _ _ _ us hl => match us, hl with | [_], _ => rfl⟩
  have rA : Pn P w K mg base C "amount" (spGA C) aA gA hA := ⟨ok_gA pA.fn T, pA.pr, pA.fn.binds (ps := ["self"]) fun _ _ _ _ _ _ us hl => match us, hl with | [_], _ => rfl⟩
  have bFe : Binds K fdFe ["self"] [] := mFe.binds (ps := ["self"]) fun _ _ _ _ _ _ us hl => match us, hl with | [_], _ => rfl
  have bEa : Binds K fdEa ["self"] [] := mEa.binds (ps := ["self"]) fun _ _ _ _ _ _ us hl => match us, hl with | [_], _ => rfl
  have bBo : Binds K fdBo ["self"] [] := mBo.binds (ps := ["self"]) fun _ _ _ _ _ _ us hl => match us, hl with | [_], _ => rfl
  have bCo : Binds K fdCo ["self", "x"] [] := mCo.binds (ps := ["self", "x"]) fun _ _ _ _ _ _ us hl => match us, hl with | [_, _], _ => rfl
  have bEq : Binds K fdEq ["self", "other"] [] := mEq.binds (ps := ["self", "other"]) fun _ _ _ _ _ _ us hl => match us, hl with | [_, _], _ => rfl
  have bPe : Binds K fdPe ["self", "by"] [] := mPe.binds (ps := ["self", "by"]) fun _ _ _ _ _ _ us hl => match us, hl with | [_, _], _ => rfl
  have bUn : Binds K fdUn ["self", "copies", "one", "two"] [] := mUn.binds (ps := ["self", "copies", "one", "two"]) fun _ _ _ _ _ _ us hl => match us, hl with | [_, _, _, _], _ => rfl
  have Dwh : Dn P w K mg base CX0 "is_whole" ["value"] 1 (spWhole K) fwh fdwh := ⟨ok_whole dwh.fn TX, dwh.fn.kp, dwh.fn.binds (ps := ["value"]) (fun _ _ _ _ _ _ us hl => match us, hl with | [_], _ => rfl), PySem.W.mg_of X G dwh.ns⟩
  have Dpr : Dn P w K mg base CX0 "is_pair" ["value"] 2 (spPair K) fpr fdpr := ⟨ok_pair dpr.fn TX Dwh.G dwh.fn.kp Dwh.b Dwh.g, dpr.fn.kp, dpr.fn.binds (ps := ["value"]) (fun _ _ _ _ _ _ us hl => match us, hl with | [_], _ => rfl), PySem.W.mg_of X G dpr.ns⟩
  have Dwi : Dn P w K mg base CX0 "is_wide" ["value"] 2 (spWideI K) fwi fdwi := ⟨ok_wideI dwi.fn TX Dwh, dwi.fn.kp, dwi.fn.binds (ps := ["value"]) (fun _ _ _ _ _ _ us hl => match us, hl with | [_], _ => rfl), PySem.W.mg_of X G dwi.ns⟩
  have Dwp : Dn P w K mg base CX0 "is_wide_place" ["value"] 3 (spWidePl K) fwp fdwp := ⟨ok_widePl dwp.fn Dpr Dwi, dwp.fn.kp, dwp.fn.binds (ps := ["value"]) (fun _ _ _ _ _ _ us hl => match us, hl with | [_], _ => rfl), PySem.W.mg_of X G dwp.ns⟩
  have Dco : Dn P w K mg base CX0 "check_counter" ["value"] 3 (spCounter K) fco fdco := ⟨ok_counter dco.fn Dwi, dco.fn.kp, dco.fn.binds (ps := ["value"]) (fun _ _ _ _ _ _ us hl => match us, hl with | [_], _ => rfl), PySem.W.mg_of X G dco.ns⟩
  have Dcb : Dn P w K mg base CX0 "check_bounds" ["low", "high", "first", "rounds"] 4 (spChkB K) fcb fdcb := ⟨ok_chkB dcb.fn Dwi Dco, dcb.fn.kp, dcb.fn.binds (ps := ["low", "high", "first", "rounds"]) (fun _ _ _ _ _ _ us hl => match us, hl with | [_, _, _, _], _ => rfl), PySem.W.mg_of X G dcb.ns⟩
  have Ddv : Dn P w K mg base CX0 "divisor_of" ["one", "other"] 1 spDiv fdv fddv := ⟨ok_div ddv.fn TD, ddv.fn.kp, ddv.fn.binds (ps := ["one", "other"]) (fun _ _ _ _ _ _ us hl => match us, hl with | [_, _], _ => rfl), PySem.W.mg_of X G ddv.ns⟩
  have Dli : Dn P w K mg base CX0 "line_of" ["place", "other"] 2 spLine fli fdli := ⟨ok_line dli.fn Ddv, dli.fn.kp, dli.fn.binds (ps := ["place", "other"]) (fun _ _ _ _ _ _ us hl => match us, hl with | [_, _], _ => rfl), PySem.W.mg_of X G dli.ns⟩
  have Daf : Dn P w K mg base CX0 "after" ["pair", "step", "times"] 1 spAfter faf fdaf := ⟨ok_after daf.fn, daf.fn.kp, daf.fn.binds (ps := ["pair", "step", "times"]) (fun _ _ _ _ _ _ us hl => match us, hl with | [_, _, _], _ => rfl), PySem.W.mg_of X G daf.ns⟩
  have Dsl : Dn P w K mg base CX0 "slacks" ["pair", "bounds"] 1 spSlacks fsl fdsl := ⟨ok_slacks dsl.fn, dsl.fn.kp, dsl.fn.binds (ps := ["pair", "bounds"]) (fun _ _ _ _ _ _ us hl => match us, hl with | [_, _], _ => rfl), PySem.W.mg_of X G dsl.ns⟩
  have Dlm : Dn P w K mg base CX0 "limits_of" ["line", "bounds"] 2 spLimits flm fdlm := ⟨ok_limits dlm.fn TD.zip Dsl Daf, dlm.fn.kp, dlm.fn.binds (ps := ["line", "bounds"]) (fun _ _ _ _ _ _ us hl => match us, hl with | [_, _], _ => rfl), PySem.W.mg_of X G dlm.ns⟩
  have Dsp : Dn P w K mg base CX0 "span_of" ["limits"] 1 spSpan fsp fdsp := ⟨ok_span dsp.fn TM, dsp.fn.kp, dsp.fn.binds (ps := ["limits"]) (fun _ _ _ _ _ _ us hl => match us, hl with | [_], _ => rfl), PySem.W.mg_of X G dsp.ns⟩
  have Dgo : Dn P w K mg base CX0 "goes_up" ["slopes"] 1 spGoes fgo fdgo := ⟨ok_goes dgo.fn, dgo.fn.kp, dgo.fn.binds (ps := ["slopes"]) (fun _ _ _ _ _ _ us hl => match us, hl with | [_], _ => rfl), PySem.W.mg_of X G dgo.ns⟩
  have Dle : Dn P w K mg base CX0 "least_by" ["line", "span", "slopes"] 2 spLeast fle fdle := ⟨ok_least dle.fn Dgo Daf, dle.fn.kp, dle.fn.binds (ps := ["line", "span", "slopes"]) (fun _ _ _ _ _ _ us hl => match us, hl with | [_, _, _], _ => rfl), PySem.W.mg_of X G dle.ns⟩
  have Dem : Dn P w K mg base CX0 "empty_paper" ["place", "other", "line", "limits"] 2 spEmpty fem fdem := ⟨ok_empty dem.fn TM Ddv Daf, dem.fn.kp, dem.fn.binds (ps := ["place", "other", "line", "limits"]) (fun _ _ _ _ _ _ us hl => match us, hl with | [_, _, _, _], _ => rfl), PySem.W.mg_of X G dem.ns⟩
  have Dke : Dn P w K mg base CX0 "keeps_all" ["pair", "bounds"] 2 spKeeps fke fdke := ⟨ok_keeps dke.fn TM.min Dsl, dke.fn.kp, dke.fn.binds (ps := ["pair", "bounds"]) (fun _ _ _ _ _ _ us hl => match us, hl with | [_, _], _ => rfl), PySem.W.mg_of X G dke.ns⟩
  have Ddi : Dn P w K mg base CX0 "_law_dice" ["_law_cell"] 1 spDice fdi fddi := ⟨ok_dice ddi.fn TB, ddi.fn.kp, ddi.fn.binds (ps := ["_law_cell"]) (fun _ _ _ _ _ _ us hl => match us, hl with | [_], _ => rfl), PySem.W.mg_of X G ddi.ns⟩
  have Dnx : Dn P w K mg base CX0 "_law_next" ["_law_dice_here", "_law_many"] 1 spNext fnx fdnx := ⟨ok_next dnx.fn TB, dnx.fn.kp, dnx.fn.binds (ps := ["_law_dice_here", "_law_many"]) (fun _ _ _ _ _ _ us hl => match us, hl with | [_, _], _ => rfl), PySem.W.mg_of X G dnx.ns⟩
  have Dce : Dn P w K mg base CX0 "_law_cells" ["_law_script", "_law_most"] 1 (spCells K) fce fdce := ⟨ok_cells dce.fn TB, dce.fn.kp, dce.fn.binds (ps := ["_law_script", "_law_most"]) (fun _ _ _ _ _ _ us hl => match us, hl with | [_, _], _ => rfl), PySem.W.mg_of X G dce.ns⟩
  have Dgr : Dn P w K mg base CX0 "_law_great" ["_law_dice_here"] 2 spDraw fgr fdgr := ⟨ok_great dgr.fn TB Dnx.G dnx.fn.kp Dnx.b Dnx.g, dgr.fn.kp, dgr.fn.binds (ps := ["_law_dice_here"]) (fun _ _ _ _ _ _ us hl => match us, hl with | [_], _ => rfl), PySem.W.mg_of X G dgr.ns⟩
  have Dwd : Dn P w K mg base CX0 "_law_whole" ["_law_dice_here"] 3 spDraw fwd fdwd := ⟨ok_wholeD dwd.fn Dnx.G dnx.fn.kp Dnx.b Dnx.g Dgr.G dgr.fn.kp Dgr.b Dgr.g, dwd.fn.kp, dwd.fn.binds (ps := ["_law_dice_here"]) (fun _ _ _ _ _ _ us hl => match us, hl with | [_], _ => rfl), PySem.W.mg_of X G dwd.ns⟩
  have Dst : Dn P w K mg base CX0 "_law_steps" ["_law_dice_here"] 4 spSteps fst fdst := ⟨lok_steps dst.fn Dnx Dwd, dst.fn.kp, dst.fn.binds (ps := ["_law_dice_here"]) (fun _ _ _ _ _ _ us hl => match us, hl with | [_], _ => rfl), PySem.W.mg_of X G dst.ns⟩
  have GI : FnOk P w K mg base CX0 5 fI fdI pInit (spInit C) := ok_init mIn T Dwp Dcb Dli Dlm Dsp Dem (ok_find mFe T Dle) bFe CL.eFe
  have nE : En P w K mg base C fEa fdEa := ⟨gok_each mEa T Dgo Daf, CL.eEa, bEa⟩
  have nB : Bn P w K mg base C fBo fdBo := ⟨ok_bool mBo T, bBo, CL.eBo.1, CL.eBo.2⟩
  have nH : Hn P w K mg base C fCo fdCo := ⟨ok_has mCo T Dpr Dke, bCo, CL.eCo.1, CL.eCo.2⟩
  have QT : QTxt K mg C := ⟨CL.ha, CL.hn, CL.htk, CL.hm, gC, if_pos (beq_self_eq_true _), kit_no CL.ic CL.ty CL.sT, (PySem.W.mg_none_of X G z0)⟩
  have nQ : Qn P w K mg base C fEq fdEq := ⟨ok_eqM mEq T QT, bEq, ⟨CL.eEq.1, CL.eEq.2, CL.ne, CL.hm, CL.sT⟩⟩
  have nM : Mn P w K mg base C fI fdI := ⟨gC, M, GI⟩
  obtain ⟨_, kb3⟩ := CM.c3
  obtain ⟨_, cap⟩ := CL.cap
  have nP : Nn P w K mg base C "peeled" ["self", "by"] 7 (spPeel C) fPe fdPe := ⟨ok_pd mPe TU T nM _ kb3 Dco, CL.ePe, bPe⟩
  have nU : Nn P w K mg base C "unrolled" ["self", "copies", "one", "two"] 7 (spUnr C) fUn fdUn := ⟨ok_un mUn TU T nM _ kb3 (PySem.W.mg_of X G cap) Dwi, CL.eUn, bUn⟩
  have Dma : Dn P w K mg base CX0 "_law_made" ["_law_place", "_law_other", "_law_bounds_here"] 7 (spMade C) fma fdma := ⟨lok_made dma.fn gC M GI CM, dma.fn.kp, dma.fn.binds (ps := ["_law_place", "_law_other", "_law_bounds_here"]) (fun _ _ _ _ _ _ us hl => match us, hl with | [_, _, _], _ => rfl), PySem.W.mg_of X G dma.ns⟩
  have Dic : Dn P w K mg base CX0 "_law_is_count" ["_law_value"] 1 (spWhole K) fic fdic := ⟨lok_count dic.fn TX, dic.fn.kp, dic.fn.binds (ps := ["_law_value"]) (fun _ _ _ _ _ _ us hl => match us, hl with | [_], _ => rfl), PySem.W.mg_of X G dic.ns⟩
  have Dbd : Dn P w K mg base CX0 "_law_bounds" ["_law_dice_here", "_law_most"] 2 spBounds fbd fdbd := ⟨lok_bounds dbd.fn Dnx, dbd.fn.kp, dbd.fn.binds (ps := ["_law_dice_here", "_law_most"]) (fun _ _ _ _ _ _ us hl => match us, hl with | [_, _], _ => rfl), PySem.W.mg_of X G dbd.ns⟩
  have Dtr : Dn P w K mg base CX0 "_law_is_truth" ["_law_value", "_law_due"] 1 spTruth ftr fdtr := ⟨lok_truth dtr.fn TX, dtr.fn.kp, dtr.fn.binds (ps := ["_law_value", "_law_due"]) (fun _ _ _ _ _ _ us hl => match us, hl with | [_, _], _ => rfl), PySem.W.mg_of X G dtr.ns⟩
  have Drd : Dn P w K mg base CX0 "_law_round" ["_law_dice_here"] 3 spRound frd fdrd := ⟨ok_rd drd.fn TB Dnx Dgr, drd.fn.kp, drd.fn.binds (ps := ["_law_dice_here"]) (fun _ _ _ _ _ _ us hl => match us, hl with | [_], _ => rfl), PySem.W.mg_of X G drd.ns⟩
  have Dbt : Dn P w K mg base CX0 "_law_built" ["_law_dice_here"] 5 spBuilt fbt fdbt := ⟨ok_bt dbt.fn TB Drd Dst Dwd Dnx, dbt.fn.kp, dbt.fn.binds (ps := ["_law_dice_here"]) (fun _ _ _ _ _ _ us hl => match us, hl with | [_], _ => rfl), PySem.W.mg_of X G dbt.ns⟩
  have Ddr : Dn P w K mg base CX0 "_law_drawn" ["_law_dice_here"] 6 spDrawn fdr fddr := ⟨ok_dr ddr.fn Dnx Dbt Dbd, ddr.fn.kp, ddr.fn.binds (ps := ["_law_dice_here"]) (fun _ _ _ _ _ _ us hl => match us, hl with | [_], _ => rfl), PySem.W.mg_of X G ddr.ns⟩
  have Dbo : Dn P w K mg base CX0 "_law_bounds_of" ["_law_met"] 3 (spBOf C) fbo fdbo := ⟨ok_bo dbo.fn T rLo rHi rFi rRo, dbo.fn.kp, dbo.fn.binds (ps := ["_law_met"]) (fun _ _ _ _ _ _ us hl => match us, hl with | [_], _ => rfl), PySem.W.mg_of X G dbo.ns⟩
  have Dup : Dn P w K mg base CX0 "_law_up" ["_law_number", "_law_parts"] 1 spUp fup fdup := ⟨ok_up dup.fn , dup.fn.kp, dup.fn.binds (ps := ["_law_number", "_law_parts"]) (fun _ _ _ _ _ _ us hl => match us, hl with | [_, _], _ => rfl), PySem.W.mg_of X G dup.ns⟩
  have Dpl : Dn P w K mg base CX0 "_law_peels" ["_law_place", "_law_other", "_law_bounds_here", "_law_met", "_law_dice_here"] 8 (spPeels C) fpl fdpl := ⟨ok_pl dpl.fn TP T nP nE nB nH nQ rP rO rD Drd Dbo Dtr Dnx, dpl.fn.kp, dpl.fn.binds (ps := ["_law_place", "_law_other", "_law_bounds_here", "_law_met", "_law_dice_here"]) (fun _ _ _ _ _ _ us hl => match us, hl with | [_, _, _, _, _], _ => rfl), PySem.W.mg_of X G dpl.ns⟩
  have Dcp : Dn P w K mg base CX0 "_law_copies" ["_law_place", "_law_other", "_law_bounds_here", "_law_met", "_law_copies_here"] 8 (spCopies C) fcp fdcp := ⟨ok_cp dcp.fn TG T nU rP rO Dup Dbo, dcp.fn.kp, dcp.fn.binds (ps := ["_law_place", "_law_other", "_law_bounds_here", "_law_met", "_law_copies_here"]) (fun _ _ _ _ _ _ us hl => match us, hl with | [_, _, _, _, _], _ => rfl), PySem.W.mg_of X G dcp.ns⟩
  have Dip : Dn P w K mg base CX0 "_law_is_parted" ["_law_met", "_law_parts", "_law_copies_here", "_law_pair"] 5 (spParted C) fip fdip := ⟨ok_ip dip.fn TS nH, dip.fn.kp, dip.fn.binds (ps := ["_law_met", "_law_parts", "_law_copies_here", "_law_pair"]) (fun _ _ _ _ _ _ us hl => match us, hl with | [_, _, _, _], _ => rfl), PySem.W.mg_of X G dip.ns⟩
  have Dur : Dn P w K mg base CX0 "_law_unrolls" ["_law_place", "_law_other", "_law_bounds_here", "_law_met", "_law_copies_here"] 9 (spUnrolls C) fur fdur := ⟨ok_ur dur.fn TV T nE nB nH rA rD rN Dcp Dic Dip, dur.fn.kp, dur.fn.binds (ps := ["_law_place", "_law_other", "_law_bounds_here", "_law_met", "_law_copies_here"]) (fun _ _ _ _ _ _ us hl => match us, hl with | [_, _, _, _, _], _ => rfl), PySem.W.mg_of X G dur.ns⟩
  have Don : Dn P w K mg base CX0 "_law_one" ["_law_cell"] 10 spOneL fon fdon := ⟨ok_on don.fn Ddi Ddr Dma Dpl Dur Dnx, don.fn.kp, don.fn.binds (ps := ["_law_cell"]) (fun _ _ _ _ _ _ us hl => match us, hl with | [_], _ => rfl), PySem.W.mg_of X G don.ns⟩
  exact ok_lw dlw.fn Dce Don
theorem walk {l : PySem.W.OpenLaw} {q : Program} {loose : List Str} {XP : (Str → Option Value) → Heap → Prop} {YP : World → Heap → Prop} {d : DefRec} {K : Params → PySem.W.Frag} (hn : l.most = some 63) (hdf : d.params.defaults = [])
    (hY : ∀ (w : World) (h : Heap), YP w h → (K w.params).In h)
    (F : ∀ (w : World) (mg : Str → Option Value) (fa : Addr) (h : Heap), (K w.params).In h → h.Ns mainGlobals mg → mg d.name = some (.ref fa) →
      ∃ fd : FuncData, (∀ (s : Shared) (u : Value), BindsTo s fd ⟨[u], []⟩ [("_law_script", u)]) ∧ ∀ base : Heap, (K w.params).In base → base.Ns mainGlobals mg → FnOk l.prog w (K w.params) mg base CX0 11 fa fd ["_law_script"] (spLaw (K w.params))) :
    PySem.W.WalkO q loose XP YP l.row.toRowW d [] (fun f vs => PySem.call f vs) :=
  L2.walk_of (n := 63) (k := 11) (x := "_law_script") (CX := fun _ => CX0) (sp := fun w => spLaw (K w.params)) hn (by decide) hdf ⟨rfl, by decide, by decide⟩ hY F (fun _ _ a ns hl _ hS => ⟨a, ns, rfl, hS, hl, fun _ => rfl⟩) fun _ _ _ _ _ z => z
end K14
open PySem PySem.W PyProof.Rows
set_option maxRecDepth 100000 in
set_option maxHeartbeats 0 in
theorem PySem.Challenge.cw_loopfoundry_k14_whole_peeled_and_unrolle_holds : PySem.Challenge.rw_loopfoundry_k14_whole_peeled_and_unrolle.Holds := by
  w_on; o_law; k_head; (case hw => w_witness2)
  k_fill
  refine K14.walk (l := PySem.Challenge.rw_loopfoundry_k14_whole_peeled_and_unrolle) rfl rfl (fun w h Y => PySem.W.kIn_of Y) ?F
  case F =>
    intro w mg fa h KX G hmg
    refine' K14.all_mk KX G hmg ?CL ?wd (K14.atI ?il ?ic ?ik ?i0 ?i1 ?i2 ?i3) (K14.atM ?ml_Fe ?mc_Fe ?mk_Fe) (K14.atM ?ml_Ea ?mc_Ea ?mk_Ea) (K14.atM ?ml_Bo ?mc_Bo ?mk_Bo) (K14.atM ?ml_Co ?mc_Co ?mk_Co) (K14.atM ?ml_Eq ?mc_Eq ?mk_Eq) (K14.atM ?ml_Pe ?mc_Pe ?mk_Pe) (K14.atM ?ml_Un ?mc_Un ?mk_Un) (K14.atP ?pa_P ?pb_P ?pc_P ?pd_P ?pl_P ?pe_P ?pk_P) (K14.atP ?pa_O ?pb_O ?pc_O ?pd_O ?pl_O ?pe_O ?pk_O) (K14.atP ?pa_Lo ?pb_Lo ?pc_Lo ?pd_Lo ?pl_Lo ?pe_Lo ?pk_Lo) (K14.atP ?pa_Hi ?pb_Hi ?pc_Hi ?pd_Hi ?pl_Hi ?pe_Hi ?pk_Hi) (K14.atP ?pa_Fi ?pb_Fi ?pc_Fi ?pd_Fi ?pl_Fi ?pe_Fi ?pk_Fi) (K14.atP ?pa_Ro ?pb_Ro ?pc_Ro ?pd_Ro ?pl_Ro ?pe_Ro ?pk_Ro) (K14.atP ?pa_N ?pb_N ?pc_N ?pd_N ?pl_N ?pe_N ?pk_N) (K14.atP ?pa_D ?pb_D ?pc_D ?pd_D ?pl_D ?pe_D ?pk_D) (K14.atP ?pa_A ?pb_A ?pc_A ?pd_A ?pl_A ?pe_A ?pk_A) (K14.atTop ?a_wh ?l_wh ?c_wh ?k_wh) (K14.atTop ?a_pr ?l_pr ?c_pr ?k_pr) (K14.atTop ?a_wi ?l_wi ?c_wi ?k_wi) (K14.atTop ?a_wp ?l_wp ?c_wp ?k_wp) (K14.atTop ?a_co ?l_co ?c_co ?k_co) (K14.atTop ?a_cb ?l_cb ?c_cb ?k_cb) (K14.atTop ?a_dv ?l_dv ?c_dv ?k_dv) (K14.atTop ?a_li ?l_li ?c_li ?k_li) (K14.atTop ?a_af ?l_af ?c_af ?k_af) (K14.atTop ?a_sl ?l_sl ?c_sl ?k_sl) (K14.atTop ?a_lm ?l_lm ?c_lm ?k_lm) (K14.atTop ?a_sp ?l_sp ?c_sp ?k_sp) (K14.atTop ?a_go ?l_go ?c_go ?k_go) (K14.atTop ?a_le ?l_le ?c_le ?k_le) (K14.atTop ?a_em ?l_em ?c_em ?k_em) (K14.atTop ?a_ke ?l_ke ?c_ke ?k_ke) (K14.atTop ?a_di ?l_di ?c_di ?k_di) (K14.atTop ?a_nx ?l_nx ?c_nx ?k_nx) (K14.atTop ?a_ce ?l_ce ?c_ce ?k_ce) (K14.atTop ?a_gr ?l_gr ?c_gr ?k_gr) (K14.atTop ?a_wd ?l_wd ?c_wd ?k_wd) (K14.atTop ?a_st ?l_st ?c_st ?k_st) (K14.atTop ?a_ma ?l_ma ?c_ma ?k_ma) (K14.atTop ?a_ic ?l_ic ?c_ic ?k_ic) (K14.atTop ?a_bd ?l_bd ?c_bd ?k_bd) (K14.atTop ?a_tr ?l_tr ?c_tr ?k_tr) (K14.atTop ?a_rd ?l_rd ?c_rd ?k_rd) (K14.atTop ?a_bt ?l_bt ?c_bt ?k_bt) (K14.atTop ?a_dr ?l_dr ?c_dr ?k_dr) (K14.atTop ?a_bo ?l_bo ?c_bo ?k_bo) (K14.atTop ?a_up ?l_up ?c_up ?k_up) (K14.atTop ?a_pl ?l_pl ?c_pl ?k_pl) (K14.atTop ?a_cp ?l_cp ?c_cp ?k_cp) (K14.atTop ?a_ip ?l_ip ?c_ip ?k_ip) (K14.atTop ?a_ur ?l_ur ?c_ur ?k_ur) (K14.atTop ?a_on ?l_on ?c_on ?k_on) (K14.atTop ?a_lw ?l_lw ?c_lw ?k_lw) ?z0 ?z1 ?z2 ?z3 ?z4 ?z5 ?z6 ?z7 ?z8 ?z9 ?z10 ?z11 ?z12 ?hb
    case CL =>
      refine' ⟨?q_nC, ⟨⟨?q_cpg, ?q_chd, ?q_cpo, ?q_csa⟩, ?q_nP, ?q_nB, ?q_nL, ?q_nN, ?q_nS, ?q_nT, ?q_nR, ?q_nAm, ?q_nQ⟩, ⟨?q_mm, ?q_mi, ?q_mf, ?q_mk⟩, ⟨?q_em_Fe, ?q_en_Fe, ?q_ep_Fe⟩, ⟨?q_em_Ea, ?q_en_Ea, ?q_ep_Ea⟩, ⟨?q_es_Bo, ?q_ef_Bo⟩, ⟨?q_es_Co, ?q_ef_Co⟩, ⟨?q_es_Eq, ?q_ef_Eq⟩, ⟨?q_em_Pe, ?q_en_Pe, ?q_ep_Pe⟩, ⟨?q_em_Un, ?q_en_Un, ?q_ep_Un⟩, ?q_xha, ?q_xhn, ?q_xhtk, ?q_xhm, ?q_xic, ?q_xty, ?q_xsT, ?q_xne, K14.capE ?q_xcap⟩
      (case q_nC => k_is)
      (case q_cpg => k_is)
      (case q_chd => k_is)
      (case q_cpo => k_is)
      (case q_csa => k_is)
      (case q_nP => unfold L2.NoAttr; k_is)
      (case q_nB => unfold L2.NoAttr; k_is)
      (case q_nL => unfold L2.NoAttr; k_is)
      (case q_nN => unfold L2.NoAttr; k_is)
      (case q_nS => unfold L2.NoAttr; k_is)
      (case q_nT => unfold L2.NoAttr; k_is)
      (case q_nR => unfold L2.NoAttr; k_is)
      (case q_nAm => unfold L2.NoAttr; k_is)
      (case q_nQ => unfold L2.NoAttr; k_is)
      (case q_mm => k_is)
      (case q_mi => k_is)
      (case q_mf => k_is)
      (case q_mk => k_is)
      (case q_em_Fe => k_is)
      (case q_en_Fe => k_is)
      (case q_ep_Fe => k_is)
      (case q_em_Ea => k_is)
      (case q_en_Ea => k_is)
      (case q_ep_Ea => k_is)
      (case q_es_Bo => k_is)
      (case q_ef_Bo => k_is)
      (case q_es_Co => k_is)
      (case q_ef_Co => k_is)
      (case q_es_Eq => k_is)
      (case q_ef_Eq => k_is)
      (case q_em_Pe => k_is)
      (case q_en_Pe => k_is)
      (case q_ep_Pe => k_is)
      (case q_em_Un => k_is)
      (case q_en_Un => k_is)
      (case q_ep_Un => k_is)
      (case q_xha => k_is)
      (case q_xhn => k_is)
      (case q_xhtk => k_is)
      (case q_xhm => k_is)
      (case q_xic => k_is)
      (case q_xty => k_is)
      (case q_xsT => k_is)
      (case q_xne => k_is)
      (case q_xcap => k_is)
    (case wd => k_is)
    (case il => k_is)
    (case ic => k_is)
    (case ik => k_is)
    (case i0 => k_is)
    (case i1 => k_is)
    (case i2 => k_is)
    (case i3 => k_is)
    (case ml_Fe => k_is); (case mc_Fe => k_is); (case mk_Fe => k_is)
    (case ml_Ea => k_is); (case mc_Ea => k_is); (case mk_Ea => k_is)
    (case ml_Bo => k_is); (case mc_Bo => k_is); (case mk_Bo => k_is)
    (case ml_Co => k_is); (case mc_Co => k_is); (case mk_Co => k_is)
    (case ml_Eq => k_is); (case mc_Eq => k_is); (case mk_Eq => k_is)
    (case ml_Pe => k_is); (case mc_Pe => k_is); (case mk_Pe => k_is)
    (case ml_Un => k_is); (case mc_Un => k_is); (case mk_Un => k_is)
    (case pa_P => k_is); (case pb_P => k_is); (case pc_P => k_is); (case pd_P => k_is); (case pl_P => k_is); (case pe_P => k_is); (case pk_P => k_is)
    (case pa_O => k_is); (case pb_O => k_is); (case pc_O => k_is); (case pd_O => k_is); (case pl_O => k_is); (case pe_O => k_is); (case pk_O => k_is)
    (case pa_Lo => k_is); (case pb_Lo => k_is); (case pc_Lo => k_is); (case pd_Lo => k_is); (case pl_Lo => k_is); (case pe_Lo => k_is); (case pk_Lo => k_is)
    (case pa_Hi => k_is); (case pb_Hi => k_is); (case pc_Hi => k_is); (case pd_Hi => k_is); (case pl_Hi => k_is); (case pe_Hi => k_is); (case pk_Hi => k_is)
    (case pa_Fi => k_is); (case pb_Fi => k_is); (case pc_Fi => k_is); (case pd_Fi => k_is); (case pl_Fi => k_is); (case pe_Fi => k_is); (case pk_Fi => k_is)
    (case pa_Ro => k_is); (case pb_Ro => k_is); (case pc_Ro => k_is); (case pd_Ro => k_is); (case pl_Ro => k_is); (case pe_Ro => k_is); (case pk_Ro => k_is)
    (case pa_N => k_is); (case pb_N => k_is); (case pc_N => k_is); (case pd_N => k_is); (case pl_N => k_is); (case pe_N => k_is); (case pk_N => k_is)
    (case pa_D => k_is); (case pb_D => k_is); (case pc_D => k_is); (case pd_D => k_is); (case pl_D => k_is); (case pe_D => k_is); (case pk_D => k_is)
    (case pa_A => k_is); (case pb_A => k_is); (case pc_A => k_is); (case pd_A => k_is); (case pl_A => k_is); (case pe_A => k_is); (case pk_A => k_is)
    (case a_wh => k_is); (case l_wh => k_is); (case c_wh => k_is); (case k_wh => k_is)
    (case a_pr => k_is); (case l_pr => k_is); (case c_pr => k_is); (case k_pr => k_is)
    (case a_wi => k_is); (case l_wi => k_is); (case c_wi => k_is); (case k_wi => k_is)
    (case a_wp => k_is); (case l_wp => k_is); (case c_wp => k_is); (case k_wp => k_is)
    (case a_co => k_is); (case l_co => k_is); (case c_co => k_is); (case k_co => k_is)
    (case a_cb => k_is); (case l_cb => k_is); (case c_cb => k_is); (case k_cb => k_is)
    (case a_dv => k_is); (case l_dv => k_is); (case c_dv => k_is); (case k_dv => k_is)
    (case a_li => k_is); (case l_li => k_is); (case c_li => k_is); (case k_li => k_is)
    (case a_af => k_is); (case l_af => k_is); (case c_af => k_is); (case k_af => k_is)
    (case a_sl => k_is); (case l_sl => k_is); (case c_sl => k_is); (case k_sl => k_is)
    (case a_lm => k_is); (case l_lm => k_is); (case c_lm => k_is); (case k_lm => k_is)
    (case a_sp => k_is); (case l_sp => k_is); (case c_sp => k_is); (case k_sp => k_is)
    (case a_go => k_is); (case l_go => k_is); (case c_go => k_is); (case k_go => k_is)
    (case a_le => k_is); (case l_le => k_is); (case c_le => k_is); (case k_le => k_is)
    (case a_em => k_is); (case l_em => k_is); (case c_em => k_is); (case k_em => k_is)
    (case a_ke => k_is); (case l_ke => k_is); (case c_ke => k_is); (case k_ke => k_is)
    (case a_di => k_is); (case l_di => k_is); (case c_di => k_is); (case k_di => k_is)
    (case a_nx => k_is); (case l_nx => k_is); (case c_nx => k_is); (case k_nx => k_is)
    (case a_ce => k_is); (case l_ce => k_is); (case c_ce => k_is); (case k_ce => k_is)
    (case a_gr => k_is); (case l_gr => k_is); (case c_gr => k_is); (case k_gr => k_is)
    (case a_wd => k_is); (case l_wd => k_is); (case c_wd => k_is); (case k_wd => k_is)
    (case a_st => k_is); (case l_st => k_is); (case c_st => k_is); (case k_st => k_is)
    (case a_ma => k_is); (case l_ma => k_is); (case c_ma => k_is); (case k_ma => k_is)
    (case a_ic => k_is); (case l_ic => k_is); (case c_ic => k_is); (case k_ic => k_is)
    (case a_bd => k_is); (case l_bd => k_is); (case c_bd => k_is); (case k_bd => k_is)
    (case a_tr => k_is); (case l_tr => k_is); (case c_tr => k_is); (case k_tr => k_is)
    (case a_rd => k_is); (case l_rd => k_is); (case c_rd => k_is); (case k_rd => k_is)
    (case a_bt => k_is); (case l_bt => k_is); (case c_bt => k_is); (case k_bt => k_is)
    (case a_dr => k_is); (case l_dr => k_is); (case c_dr => k_is); (case k_dr => k_is)
    (case a_bo => k_is); (case l_bo => k_is); (case c_bo => k_is); (case k_bo => k_is)
    (case a_up => k_is); (case l_up => k_is); (case c_up => k_is); (case k_up => k_is)
    (case a_pl => k_is); (case l_pl => k_is); (case c_pl => k_is); (case k_pl => k_is)
    (case a_cp => k_is); (case l_cp => k_is); (case c_cp => k_is); (case k_cp => k_is)
    (case a_ip => k_is); (case l_ip => k_is); (case c_ip => k_is); (case k_ip => k_is)
    (case a_ur => k_is); (case l_ur => k_is); (case c_ur => k_is); (case k_ur => k_is)
    (case a_on => k_is); (case l_on => k_is); (case c_on => k_is); (case k_on => k_is)
    (case a_lw => k_is); (case l_lw => k_is); (case c_lw => k_is); (case k_lw => k_is)
    (case z0 => k_is); (case z1 => k_is); (case z2 => k_is); (case z3 => k_is); (case z4 => k_is); (case z5 => k_is); (case z6 => k_is); (case z7 => k_is); (case z8 => k_is); (case z9 => k_is); (case z10 => k_is); (case z11 => k_is); (case z12 => k_is)
    (case hb => exact fun s v => .of_eq rfl)
