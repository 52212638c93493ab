import PyProof.Rows.All
import Wide.All
import OpenK.AllK
import Wide.FinOn
import PyProof.ReprRoads
import PyProof.CallFns
import HandS.ForMost
import HandS.ForExc
import HandS.Lambda
import HandS.EndBits
import HandS.EndTab
import PyProof.NeKinds
import PyProof.NeData
import PyProof.FactsAll.dict_1
import PyProof.FactsAll.dict_2
import PyProof.FactsAll.subtypes
import HandS.Zip
import HandS.Walk
import KE.DataCmp
import PyProof.EqAt
import PyProof.EqKinds
import PyProof.TupleCall
import HandS.Base
import HandS.Call
import HandS.Exc
import KE.KExcInit
import HandS.Ends
import HandS.SortKw
import KE.KMinKey
import PyProof.WalkInts
import HandS.SlotsOwn
import PyProof.Conv_bool
import HandS.Comp
import HandS.Dict
import HandS.IsInst
import HandS.Wide
import HandS.TupLe
import HandS.Flow
import HandS.Star
import HandS.MakeKwOnly
import HandS.Property
import HandS.TupAny
import HandS.TryOnly
import HandS.ExcIs
import PySem.Challenge.RW_loopfoundry_k11_papers_of_meetings_judge
set_option Elab.async false
set_option linter.all false
set_option maxRecDepth 100000
set_option maxHeartbeats 4000000
/-! defs that are told that no repr is under way around them; repr of data; the end of a law for them -/
namespace L2.My
open PySem PySem.Spec PyProof.Rows
/-- as FnOk, where the guards around are none -/
structure FnG (P : Program) (w : World) (K : PySem.W.Frag) (mg : Str → Option Value) (base : Heap) (k : Nat) (f : Addr) (fd : FuncData) (ps : List Str) (sp : Sp) : Prop where
  len : ∀ vs H Q E, sp vs H Q E → vs.length = ps.length
  run : ∀ (A : Around) (outer : List Env) (s : Shared) (H : Hp) (args : Args) (us : List Value) (vs : List V) (Q : VK) (E : XK), Room k A → A.guards = some [] → Env0 P w K mg base A outer s H →
    BindsTo s fd args (ps.zip us) → Vals vs us → sp vs H Q E → codeAny (model P w) A (.call (.ref f) args) (CR CX0 outer P w H s Q E) s
theorem guards_deeper {A : Around} {env : Env} (h : A.guards = some []) : (A.deeper env).guards = some [] := h
section
variable {P : Program} {w : World} {K : PySem.W.Frag} {mg : Str → Option Value} {base : Heap}
theorem Fun.okG {x qual : Str} {st : Stmt} {f : Addr} {fd : FuncData} {N ps : List Str} {k : Nat} {sp : Sp} (F : Fun K x qual st f fd) (S : FnScope N ps (defScope st)) (len : ∀ vs H Q E, sp vs H Q E → vs.length = ps.length)
    (hbody : ∀ (cdv : Value) (A : Around) (outer : List Env) (s : Shared) (H : Hp) (vs : List V) (Q : VK) (E : XK), PySem.W.codeIn K cdv qual = true → Room k (A.deeper (envOfC qual (defScope st) s.heap.objs.size f cdv)) → A.guards = some [] → sp vs H Q E →
      ∃ t, PSs (cxOf CX0 P w K mg base N qual (defScope st) f cdv A outer s H E).nox (defBody st) t ∧ t { nx := fun _ H' => Q .non H', rt := Q } (start N vs) H) : FnG P w K mg base (k + 1) f fd ps sp := by
  obtain ⟨oc, od, kV, doc, pm, an, cdv, ct, osl, rfl, lk, hcd⟩ := F.ex
  refine ⟨len, fun A outer s H args us vs Q E hr hg e0 hb r h => ?_⟩
  refine LamX.run_ofS lk hcd S hr e0 hb r (len _ _ _ _ h) fun hr' => ?_
  obtain ⟨t, ht, q⟩ := hbody cdv A outer s H vs Q E hcd hr' hg h
  exact ⟨t, ht.nox, q⟩
end
section
variable {X : Cx}
/-- f(e, ..), f such a def -/
theorem pe_callG {k : Nat} {f : Addr} {fd : FuncData} {ps : List Str} {sp : Sp} {x : Str} {p pos : Pos} {e : Expr} {es : List Expr} {t : TA} (F : FnG X.prog X.w X.K X.mg X.base k f fd ps sp) (hr : Room k X.A) (gd : X.A.guards = some []) (hg : Gl X x) (hm : X.mg x = some (.ref f))
    (hk : PySem.W.keepIn X.K (.ref f) = true) (hb : Binds X.K fd ps []) (ha : PA X (e :: es) t) (hdb : (x == ("__debug__" : Str)) = false := by decide)
    (he : starEach (e :: es) X.env = (false, eval e X.env) :: starEach es X.env := by rfl) (hpl : (backTo pos (starEach es X.env)).any (·.1) = false := by rfl) :
    PE X (.Call (.Name x p) (e :: es) [] pos) (tCall sp [] E0 t) := by
  refine ⟨fun pins s σ H Q I h => wpAny_Call_Name_kw (ld_glob I hg hm (PySem.W.callWith_K (h₀ := X.base) I.ok.mod.kin hk (thn (ha.run pos pins s σ H _ I h) fun us s1 hh => ?_) he hpl) hdb)⟩
  obtain ⟨vs, H1, I1, r, q⟩ := hh
  rw [List.append_nil] at q
  have hl : us.length = ps.length := by rw [← r.length]; exact F.len _ _ _ _ q
  have hb2 := hb s1 us I1.kIn (by rw [List.append_nil]; exact hl)
  rw [List.append_nil] at hb2
  refine ⟨I1.kIn, wpAny_call (codeAny_mono (F.run X.A X.stack s1 H1 ⟨us, []⟩ us vs Q E0 hr gd I1.env0 hb2 r q) fun r2 s2 hq => ?_)⟩
  match r2, hq with
  | .error e, hq => exact (show False from hq).elim
  | .ok (.ret u), hq => exact I1.after hq
  | .ok .next, hq => exact False.elim hq
  | .ok .brk, hq => exact False.elim hq
  | .ok .cont, hq => exact False.elim hq
/-- repr(v) of data without dicts -/
def rRepr (K : PySem.W.Frag) : List V → Hp → VK → Prop := fun xs H Q => ∃ v d, xs = [v] ∧ Dp K H v d ∧ d.showable = true ∧ d.hasDict = false ∧ d.depth ≤ 64 ∧ d.shown.length ≤ sizeLine ∧ Q (.str d.shown) H
theorem call_repr (gd : X.A.guards = some []) (hu : X.A.units + 70 < cLine) : CallR X (.builtin "repr") (rRepr X.K) := by
  intro pins s σ H xs us Q I r h
  obtain ⟨v, d, rfl, dp, sh, nd, dd, sz, q⟩ := h
  obtain ⟨u, rfl, ru⟩ : ∃ u, us = [u] ∧ RelV v u := by
    cases r with
    | cons ra rn =>
      cases rn
      exact ⟨_, rfl, ra⟩
  have done : ∀ t tk, EP X pins σ Q (.str d.shown t) { s with toks := tk } := fun t tk => ⟨.str d.shown, H, I.tok tk, ⟨t, rfl⟩, q⟩
  obtain ⟨as, rd⟩ := Dp.reads I d v u dp ru
  cases rd with
  | none => exact PySem.P.repr_of_none (done _ _)
  | bool b => exact PySem.P.repr_of_bool (done _ _)
  | int i t => exact PySem.P.repr_of_int (by simpa [PyData.showable] using sh) (done _ _)
  | str x t => exact PySem.P.repr_of_str (done _ _) sz
  | list e1 e2 e3 ra =>
    refine repr_of_reads' (.list e1 e2 e3 ra) sh (PyData.noDict_hsm nd) gd (by omega) (fun _ _ e => e) (fun h' t tk hk => ?_) sz
    exact ⟨.str _, H, I.kept (t' := tk) hk, ⟨t, rfl⟩, q⟩
  | tuple e1 e2 e3 ra =>
    refine repr_of_reads' (.tuple e1 e2 e3 ra) sh (PyData.noDict_hsm nd) gd (by omega) (fun _ _ e => e) (fun h' t tk hk => ?_) sz
    exact ⟨.str _, H, I.kept (t' := tk) hk, ⟨t, rfl⟩, q⟩
  | dict => cases nd
end
end L2.My
/-! == and != of a text with data of any kind; of lists with the empty one; great powers -/
namespace PySem.SeqAt
open MeetsSeq
open AutoSeq1 (wpAny_loadPart')
theorem dict_eq_no_str (l : Addr) (es : Array DictEntry) (n : Nat) (dd : Option Addr) (sl : Array (Option Value)) (b : Str) (u : Tok) :
    Meets (Builtin.«dict.__eq__» ⟨[.ref l, .str b u], []⟩) (fun _ R s => s.heap.get? l = some { cls := .type "dict", dict := dd, data := .dict es n, slots := sl } ∧ R (.ok (.ret .notImplemented)) s) :=
  .of_wp fun prog w A R s h => by
    obtain ⟨hp, g, d, tk, os⟩ := s
    obtain ⟨hl, h⟩ := h
    have f1 := F.sub_str_dict
    wp_walk using wpAny_loadPart' hl
    exact ⟨_, rfl, h⟩
theorem dict_ne_no_str (l : Addr) (es : Array DictEntry) (n : Nat) (dd : Option Addr) (sl : Array (Option Value)) (b : Str) (u : Tok) :
    Meets (Builtin.«dict.__ne__» ⟨[.ref l, .str b u], []⟩) (fun _ R s => s.heap.get? l = some { cls := .type "dict", dict := dd, data := .dict es n, slots := sl } ∧ R (.ok (.ret .notImplemented)) s) :=
  .of_wp fun prog w A R s h => by
    obtain ⟨hp, g, d, tk, os⟩ := s
    obtain ⟨hl, h⟩ := h
    have f1 := F.sub_str_dict
    wp_walk using wpAny_loadPart' hl
    exact ⟨_, rfl, h⟩
theorem str_eq_no_dict (b : Str) (u : Tok) (l : Addr) (es : Array DictEntry) (n : Nat) (dd : Option Addr) (sl : Array (Option Value)) :
    Meets (Builtin.«str.__eq__» ⟨[.str b u, .ref l], []⟩) (fun _ R s => s.heap.get? l = some { cls := .type "dict", dict := dd, data := .dict es n, slots := sl } ∧ R (.ok (.ret .notImplemented)) s) :=
  .of_wp fun prog w A R s h => by
    obtain ⟨hp, g, d, tk, os⟩ := s
    obtain ⟨hl, h⟩ := h
    wp_walk using wpAny_loadPart' hl, wpAny_load hl
    exact ⟨_, rfl, h⟩
theorem str_ne_no_dict (b : Str) (u : Tok) (l : Addr) (es : Array DictEntry) (n : Nat) (dd : Option Addr) (sl : Array (Option Value)) :
    Meets (Builtin.«str.__ne__» ⟨[.str b u, .ref l], []⟩) (fun _ R s => s.heap.get? l = some { cls := .type "dict", dict := dd, data := .dict es n, slots := sl } ∧ R (.ok (.ret .notImplemented)) s) :=
  .of_wp fun prog w A R s h => by
    obtain ⟨hp, g, d, tk, os⟩ := s
    obtain ⟨hl, h⟩ := h
    wp_walk using wpAny_loadPart' hl, wpAny_load hl
    exact ⟨_, rfl, h⟩
section
variable {A : Around} {s : Shared}
theorem RcAt.dict_str {l : Addr} {es : Array DictEntry} {n : Nat} {dd : Option Addr} {sl : Array (Option Value)} (b : Str) (u : Tok) (ho : s.heap.get? l = some { cls := .type "dict", dict := dd, data := .dict es n, slots := sl }) (hu : A.units < cLine) : RcAt A s (.ref l) (.str b u) false :=
  fun prog w E Q h => rc_eq_decline_or (k := false) ⟨_, ho, rfl⟩ (typeIs_str s b u) (by decide) F.sub_str_dict F.slot_dict_eq F.slot_str_eq_refl
    (fun _ hq => call_meets F.slot_dict_eq ⟨_, ho, rfl⟩ F.entry_dict_eq (F.args_dict_eq_2 _ _) (dict_eq_no_str l es n dd sl b u) ⟨ho, hq⟩)
    (fun _ hq => call_meets F.slot_str_eq_refl (typeIs_str s b u) F.entry_str_eq (F.args_str_eq_2 _ _) (str_eq_no_dict b u l es n dd sl) ⟨ho, hq⟩)
    (fun _ hq => wpAny_of_eq (rfl : isSame (.ref l) (.str b u) = pure false) hq) (.inr hu) h
theorem RcNeAt.dict_str {l : Addr} {es : Array DictEntry} {n : Nat} {dd : Option Addr} {sl : Array (Option Value)} (b : Str) (u : Tok) (ho : s.heap.get? l = some { cls := .type "dict", dict := dd, data := .dict es n, slots := sl }) (hu : A.units < cLine) : RcNeAt A s (.ref l) (.str b u) true :=
  fun prog w E Q h => rc_ne_decline_or (k := false) ⟨_, ho, rfl⟩ (typeIs_str s b u) (by decide) F.sub_str_dict F.slot_dict_ne F.slot_str_ne_refl
    (fun _ hq => call_meets F.slot_dict_ne ⟨_, ho, rfl⟩ F.entry_dict_ne (F.args_dict_ne_2 _ _) (dict_ne_no_str l es n dd sl b u) ⟨ho, hq⟩)
    (fun _ hq => call_meets F.slot_str_ne_refl (typeIs_str s b u) F.entry_str_ne (F.args_str_ne_2 _ _) (str_ne_no_dict b u l es n dd sl) ⟨ho, hq⟩)
    (fun _ hq => wpAny_of_eq (rfl : isSame (.ref l) (.str b u) = pure false) hq) (.inr hu) h
end
end PySem.SeqAt
namespace L2.My
open PySem PySem.Spec PyProof.Rows
/-- a value as a text sees it: the text that it is, or none -/
inductive AsText (H : Hp) : V → Option Str → Prop
  | str (z : Str) : AsText H (.str z) (some z)
  | non : AsText H .non none
  | bl (b : Bool) : AsText H (.bl b) none
  | int (i : Int) : AsText H (.int i) none
  | lst {a : Addr} {xs : List V} (e : H a = some (.lst xs)) : AsText H (.ref a) none
  | tup {a : Addr} {xs : List V} (e : H a = some (.tup xs)) : AsText H (.ref a) none
  | dic {a : Addr} {kvs : List (Key × V)} (e : H a = some (.dK kvs)) : AsText H (.ref a) none
section
variable {X : Cx} {pins : List (Addr × Obj)} {σ : L2.St} {H : Hp} {s : Shared}
theorem dict_get (I : Inv X pins σ H s) {a : Addr} {kvs : List (Key × V)} (e : H a = some (.dK kvs)) : ∃ dd es n sl, s.heap.get? a = some { cls := .type "dict", dict := dd, data := .dict es n, slots := sl } := by
  obtain ⟨_, _, vs, _, o, es, ep, h1, h2, h3, _⟩ := (show ObjOk X.prog X.w H s.heap a (.dK kvs) from I.hok a _ e)
  obtain ⟨oc, od, dt, sl⟩ := o
  obtain ⟨c1, _⟩ := h2
  simp only at c1 h3
  subst c1 h3
  exact ⟨od, es, ep, sl, h1⟩
def rEqX : R2 := fun x y H Q => ∃ k z, y = .str z ∧ AsText H x k ∧ Q (.bl (decide (k = some z))) H
def rNeX : R2 := fun x y H Q => ∃ k z, y = .str z ∧ AsText H x k ∧ Q (.bl (!decide (k = some z))) H
theorem some_eq (a b : Str) : decide ((some a : Option Str) = some b) = (a == b) := by
  by_cases e : a = b
  · subst e
    simp
  · simp [e]
theorem op_eqX (hu : X.A.units < cLine) : OpR X (compareOp .Eq) rEqX := by
  intro pins s σ H x y v u Q I rx ry h
  obtain ⟨k, z, rfl, tx, q⟩ := h
  obtain ⟨t, rfl⟩ := ry
  have done : ∀ b : Bool, decide (k = some z) = b → EP X pins σ Q (.bool b) s := fun b e => ⟨.bl b, H, I, rfl, e ▸ q⟩
  cases tx with
  | str z' =>
    obtain ⟨t', rfl⟩ := rx
    exact SeqAt.RcAt.str_str z' t' z t _ _ _ _ (done _ (some_eq z' z))
  | non =>
    cases rx
    exact SeqAt.RcAt.none_str z t _ _ _ _ (done _ (by simp))
  | bl b =>
    cases rx
    exact SeqAt.RcAt.bool_str b z t _ _ _ _ (done _ (by simp))
  | int i =>
    obtain ⟨t', rfl⟩ := rx
    exact SeqAt.RcAt.int_str i t' z t _ _ _ _ (done _ (by simp))
  | @lst a xs e =>
    cases rx
    obtain ⟨_, its, n, _, h1⟩ := (show ObjOk X.prog X.w H s.heap a (.lst xs) from I.hok a _ e)
    exact SeqAt.RcAt.list_str z t ⟨_, h1, rfl, n, rfl⟩ hu _ _ _ _ (done _ (by simp))
  | @tup a xs e =>
    cases rx
    obtain ⟨_, its, _, o, h1, h2, n, h3⟩ := (show ObjOk X.prog X.w H s.heap a (.tup xs) from I.hok a _ e)
    exact SeqAt.RcAt.tuple_str z t ⟨_, h1, h2, n, h3⟩ hu _ _ _ _ (done _ (by simp))
  | @dic a kvs e =>
    cases rx
    obtain ⟨dd, es, n, sl, h1⟩ := dict_get I e
    exact SeqAt.RcAt.dict_str z t h1 hu _ _ _ _ (done _ (by simp))
theorem op_neX (hu : X.A.units < cLine) : OpR X (compareOp .NotEq) rNeX := by
  intro pins s σ H x y v u Q I rx ry h
  obtain ⟨k, z, rfl, tx, q⟩ := h
  obtain ⟨t, rfl⟩ := ry
  have done : ∀ b : Bool, (!decide (k = some z)) = b → EP X pins σ Q (.bool b) s := fun b e => ⟨.bl b, H, I, rfl, e ▸ q⟩
  cases tx with
  | str z' =>
    obtain ⟨t', rfl⟩ := rx
    exact SeqAt.RcNeAt.str_str z' t' z t _ _ _ _ (done _ (by rw [some_eq z' z]))
  | non =>
    cases rx
    exact SeqAt.RcNeAt.none_str z t _ _ _ _ (done _ (by simp))
  | bl b =>
    cases rx
    exact SeqAt.RcNeAt.bool_str b z t _ _ _ _ (done _ (by simp))
  | int i =>
    obtain ⟨t', rfl⟩ := rx
    exact SeqAt.RcNeAt.int_str i t' z t _ _ _ _ (done _ (by simp))
  | @lst a xs e =>
    cases rx
    obtain ⟨_, its, n, _, h1⟩ := (show ObjOk X.prog X.w H s.heap a (.lst xs) from I.hok a _ e)
    exact SeqAt.RcNeAt.list_str z t ⟨_, h1, rfl, n, rfl⟩ hu _ _ _ _ (done _ (by simp))
  | @tup a xs e =>
    cases rx
    obtain ⟨_, its, _, o, h1, h2, n, h3⟩ := (show ObjOk X.prog X.w H s.heap a (.tup xs) from I.hok a _ e)
    exact SeqAt.RcNeAt.tuple_str z t ⟨_, h1, h2, n, h3⟩ hu _ _ _ _ (done _ (by simp))
  | @dic a kvs e =>
    cases rx
    obtain ⟨dd, es, n, sl, h1⟩ := dict_get I e
    exact SeqAt.RcNeAt.dict_str z t h1 hu _ _ _ _ (done _ (by simp))
/-- xs == [] -/
def rEqNil : R2 := fun x y H Q => ∃ a b xs, x = .ref a ∧ y = .ref b ∧ H a = some (.lst xs) ∧ H b = some (.lst []) ∧ Q (.bl xs.isEmpty) H
theorem op_eqNil (hu : X.A.units < cLine) : OpR X (compareOp .Eq) rEqNil := by
  intro pins s σ H x y v u Q I rx ry h
  obtain ⟨a, b, xs, rfl, rfl, ea, eb, q⟩ := h
  cases rx
  cases ry
  obtain ⟨_, its, n, r1, h1⟩ := (show ObjOk X.prog X.w H s.heap a (.lst xs) from I.hok a _ ea)
  obtain ⟨_, its2, n2, r2, h2⟩ := (show ObjOk X.prog X.w H s.heap b (.lst []) from I.hok b _ eb)
  cases r2
  have la : s.heap.IsList a its.toArray := ⟨_, h1, rfl, n, rfl⟩
  have lb : s.heap.IsList b #[] := ⟨_, h2, rfl, n2, rfl⟩
  cases r1 with
  | nil => exact SeqAt.RcAt.lists (e := fun _ => true) la lb rfl hu (fun j h1 _ => absurd h1 (by simp)) _ _ _ _ ⟨.bl true, H, I, rfl, q⟩
  | cons r t => exact SeqAt.RcAt.lists_lengths la lb (by simp) hu _ _ _ _ ⟨.bl false, H, I, rfl, q⟩
/-- t != () -/
def rNeUnit : R2 := fun x y H Q => ∃ a b xs, x = .ref a ∧ y = .ref b ∧ H a = some (.tup xs) ∧ H b = some (.tup []) ∧ Q (.bl (!xs.isEmpty)) H
theorem op_neUnit (hu : X.A.units < cLine) : OpR X (compareOp .NotEq) rNeUnit := by
  intro pins s σ H x y v u Q I rx ry h
  obtain ⟨a, b, xs, rfl, rfl, ea, eb, q⟩ := h
  cases rx
  cases ry
  obtain ⟨_, its, r1, o, h1, h2, n, h3⟩ := (show ObjOk X.prog X.w H s.heap a (.tup xs) from I.hok a _ ea)
  obtain ⟨_, its2, r2, o2, g1, g2, n2, g3⟩ := (show ObjOk X.prog X.w H s.heap b (.tup []) from I.hok b _ eb)
  cases r2
  have la : s.heap.IsTuple a its.toArray := ⟨_, h1, h2, n, h3⟩
  have lb : s.heap.IsTuple b #[] := ⟨_, g1, g2, n2, g3⟩
  refine SeqAt.RcNeAt.tuples (e := fun _ => true) la lb hu (fun j _ h2 => absurd h2 (by simp)) _ _ _ _ ?_
  cases r1 with
  | nil => exact ⟨.bl false, H, I, rfl, q⟩
  | cons r t => exact ⟨.bl true, H, I, by simp [RelV], q⟩
/-- a great power -/
def CPowW (i j : Int) : Prop := 0 ≤ j ∧ (Builtin.Int.intBits i : Int) * j ≤ 2 ^ 27
theorem op_powW : OpR X (binaryOp .Pow) (rI CPowW fun i j => .int (i ^ j.toNat)) := opI fun _ _ _ _ _ _ _ hc q => pow_int hc.1 hc.2 q
end
end L2.My
/-! a tuple of any data compared with a tuple of one text -/
namespace L2.My
open PySem PySem.Spec PyProof.Rows
section
variable {A : Around} {s : Shared}
/-- what == tells of a text, where the two are not the same object -/
theorem eqAt_of {x : Value} {z : Str} {t : Tok} {k : Bool} (ne : x ≠ .str z t) (h : SeqAt.RcAt A s x (.str z t) k) : SeqAt.EqAt A s x (.str z t) k := fun prog w E Q q => by
  unfold eqBool
  refine wpAny_holding (wpAny_ite_split (fun c => absurd (eq_of_beq c) ne) fun _ => ?_)
  cases x <;> exact wpAny_bind (h prog w E _ (wpAny_truthy_bool q))
end
section
variable {X : Cx} {pins : List (Addr × Obj)} {σ : L2.St} {H : Hp} {s : Shared}
/-- one item against a text -/
theorem item_text (I : Inv X pins σ H s) {v : V} {u : Value} {k : Option Str} (r : RelV v u) (t : AsText H v k) (z : Str) (tk : Tok) {A : Around} (hu : A.units < cLine) : SeqAt.EqAt A s u (.str z tk) (decide (k = some z)) := by
  cases t with
  | str z' =>
    obtain ⟨t', rfl⟩ := r
    rw [some_eq]
    exact SeqAt.EqAt.str_str z' t' z tk
  | non =>
    cases r
    exact eqAt_of (by intro e; cases e) (SeqAt.RcAt.none_str z tk)
  | bl b =>
    cases r
    exact eqAt_of (by intro e; cases e) (SeqAt.RcAt.bool_str b z tk)
  | int i =>
    obtain ⟨t', rfl⟩ := r
    exact eqAt_of (by intro e; cases e) (SeqAt.RcAt.int_str i t' z tk)
  | @lst a xs e =>
    cases r
    obtain ⟨_, its, n, _, h1⟩ := (show ObjOk X.prog X.w H s.heap a (.lst xs) from I.hok a _ e)
    exact eqAt_of (by intro e; cases e) (SeqAt.RcAt.list_str z tk ⟨_, h1, rfl, n, rfl⟩ hu)
  | @tup a xs e =>
    cases r
    obtain ⟨_, its, _, o, h1, h2, n, h3⟩ := (show ObjOk X.prog X.w H s.heap a (.tup xs) from I.hok a _ e)
    exact eqAt_of (by intro e; cases e) (SeqAt.RcAt.tuple_str z tk ⟨_, h1, h2, n, h3⟩ hu)
  | @dic a kvs e =>
    cases r
    obtain ⟨dd, es, n, sl, h1⟩ := dict_get I e
    exact eqAt_of (by intro e; cases e) (SeqAt.RcAt.dict_str z tk h1 hu)
/-- the tuple is (z,) -/
def isTag : List (Option Str) → Str → Bool
  | [k], z => decide (k = some z)
  | _, _ => false
/-- items as a text sees them -/
inductive Texts (H : Hp) : List V → List (Option Str) → Prop
  | nil : Texts H [] []
  | cons {v : V} {k : Option Str} {vs : List V} {ks : List (Option Str)} (t : AsText H v k) (r : Texts H vs ks) : Texts H (v :: vs) (k :: ks)
def rEqTag : R2 := fun x y H Q => ∃ a b xs ks z, x = .ref a ∧ y = .ref b ∧ H a = some (.tup xs) ∧ H b = some (.tup [.str z]) ∧ Texts H xs ks ∧ Q (.bl (isTag ks z)) H
theorem op_eqTag (hu : X.A.units + 1 < cLine) : OpR X (compareOp .Eq) rEqTag := by
  intro pins s σ H x y v u Q I rx ry h
  obtain ⟨a, b, xs, ks, z, rfl, rfl, ea, eb, tx, q⟩ := h
  cases rx
  cases ry
  obtain ⟨_, its, r1, o, h1, h2, n, h3⟩ := (show ObjOk X.prog X.w H s.heap a (.tup xs) from I.hok a _ ea)
  obtain ⟨_, its2, r2, o2, g1, g2, n2, g3⟩ := (show ObjOk X.prog X.w H s.heap b (.tup [.str z]) from I.hok b _ eb)
  have la : s.heap.IsTuple a its.toArray := ⟨_, h1, h2, n, h3⟩
  cases r2 with
  | @cons _ w _ ws rz rn =>
    cases rn
    obtain ⟨tk, rfl⟩ := rz
    have lb : s.heap.IsTuple b #[.str z tk] := ⟨_, g1, g2, n2, g3⟩
    refine SeqAt.RcAt.tuples (e := fun _ => isTag [ks.headD none] z) la lb (Nat.lt_of_succ_lt hu) (fun j j1 j2 => ?_) _ _ _ _ ?_
    · have j0 : j = 0 := by
        have : j < 1 := j2
        omega
      subst j0
      cases r1 with
      | nil => exact absurd j1 (by simp)
      | @cons v w vs ws r t =>
        cases tx with
        | cons t0 tr => exact item_text I r t0 z tk hu
    · cases r1 with
      | nil =>
        cases tx
        exact ⟨.bl false, H, I, rfl, q⟩
      | @cons v w vs ws r t =>
        cases tx with
        | @cons _ k _ kr t0 tr =>
          cases t with
          | nil =>
            cases tr
            exact ⟨.bl _, H, I, by simp [RelV, List.range_succ], q⟩
          | cons r' t' =>
            cases tr
            exact ⟨.bl false, H, I, by simp [RelV], q⟩
end
end L2.My
/-! repr of an empty dict -/
namespace L2.My
open PySem PySem.Spec PyProof.Rows
section
variable {X : Cx} {pins : List (Addr × Obj)} {σ : L2.St} {H : Hp} {s : Shared}
theorem dict_nil (I : Inv X pins σ H s) {a : Addr} (e : H a = some (.dK [])) : (a == sysModules) = false ∧ ∃ o n, s.heap.get? a = some o ∧ o.cls = .type "dict" ∧ o.data = .dict #[] n := by
  obtain ⟨_, q0, vs, q1, o, es, ep, h1, h2, h3, h4⟩ := (show ObjOk X.prog X.w H s.heap a (.dK []) from I.hok a _ e)
  cases q1
  have z : es = #[] := by
    have p := h4.2.1
    have p2 : es.toList = [] := by
      cases q : es.toList with
      | nil => rfl
      | cons x r =>
        rw [q] at p
        cases p
    exact Array.ext' p2
  subst z
  exact ⟨q0, o, ep, h1, h2.1, h3⟩
/-- repr(d) of an empty dict -/
def rReprNil : List V → Hp → VK → Prop := fun xs H Q => ∃ a, xs = [.ref a] ∧ H a = some (.dK []) ∧ Q (.str "{}") H
theorem call_reprNil (gd : X.A.guards = some []) (hu : X.A.units + 70 < cLine) : CallR X (.builtin "repr") rReprNil := by
  intro pins s σ H xs us Q I r h
  obtain ⟨a, rfl, e, q⟩ := h
  obtain ⟨ne, o, n, h1, h2, h3⟩ := dict_nil I e
  cases r with
  | cons ra rn =>
    cases rn
    cases ra
    have rd : Reads s.heap (.ref a) (.dict []) ([a] ++ []) := .dict h1 h2 h3 (by simpa using ReadsAll.nil) (by simpa using ReadsAll.nil)
    refine repr_of_reads' rd (by rfl) (fun _ hm => ?_) gd (by show X.A.units + (_ + 1) < cLine; have : (PyData.dict []).depth = 1 := rfl; omega) (fun _ _ e => e) (fun h' t tk hk => ?_) (by decide +kernel)
    · have hm2 : sysModules = a := by simpa using hm
      rw [hm2] at ne
      simp at ne
    · have z : (PyData.dict []).shown = "{}" := by decide +kernel
      rw [z]
      exact ⟨.str _, H, I.kept (t' := tk) hk, ⟨t, rfl⟩, q⟩
end
end L2.My
/-! zip of two tuples walked; < of data; in a tuple of one-text tuples; repr of data or of an empty dict -/
namespace PySem.SeqAt
section
variable {A : Around} {s : Shared}
theorem RcAt.str_dict (b : Str) (u : Tok) {l : Addr} {es : Array DictEntry} {n : Nat} {dd : Option Addr} {sl : Array (Option Value)} (ho : s.heap.get? l = some { cls := .type "dict", dict := dd, data := .dict es n, slots := sl }) (hu : A.units < cLine) : RcAt A s (.str b u) (.ref l) false :=
  fun prog w E Q h => rc_eq_decline_or (k := false) (typeIs_str s b u) ⟨_, ho, rfl⟩ (by decide) F.sub_dict_str F.slot_str_eq_refl F.slot_dict_eq
    (fun _ hq => call_meets F.slot_str_eq_refl (typeIs_str s b u) F.entry_str_eq (F.args_str_eq_2 _ _) (str_eq_no_dict b u l es n dd sl) ⟨ho, hq⟩)
    (fun _ hq => call_meets F.slot_dict_eq ⟨_, ho, rfl⟩ F.entry_dict_eq (F.args_dict_eq_2 _ _) (dict_eq_no_str l es n dd sl b u) ⟨ho, hq⟩)
    (fun _ hq => wpAny_of_eq (rfl : isSame (.str b u) (.ref l) = pure false) hq) (.inr hu) h
theorem eqAt_back {x : Value} {z : Str} {t : Tok} {k : Bool} (ne : x ≠ .str z t) (h : SeqAt.RcAt A s (.str z t) x k) : SeqAt.EqAt A s (.str z t) x k := fun prog w E Q q => by
  unfold eqBool
  refine wpAny_holding (wpAny_ite_split (fun c => absurd (eq_of_beq c).symm ne) fun _ => ?_)
  cases x <;> exact wpAny_bind (h prog w E _ (wpAny_truthy_bool q))
end
end PySem.SeqAt
namespace L2.My
open PySem PySem.Spec PyProof.Rows L2
section
variable {K : PySem.W.Frag} {a b : Addr} {xs ys : List V}
theorem walk_zipT {n : Nat} (hn : n = min xs.length ys.length) : Walk (RZ.ItzT K a b) n (fun H => SqT K H a xs ∧ SqT K H b ys) (YPair (fun i => xs[i]?) (fun i => ys[i]?)) := by
  refine ⟨fun i H hi q => ?_, fun H q => ⟨xs, ys, q.1, q.2, by omega⟩, fun i H v H' _ q y => ?_⟩
  · obtain ⟨x, hx⟩ : ∃ x, xs[i]? = some x := ⟨_, List.getElem?_eq_getElem (by omega)⟩
    obtain ⟨y, hy⟩ : ∃ y, ys[i]? = some y := ⟨_, List.getElem?_eq_getElem (by omega)⟩
    exact ⟨xs, ys, x, y, q.1, q.2, hx, hy⟩
  · obtain ⟨T, x, z, h1, h2, h3, h4, h5⟩ := y
    exact ⟨T, x, z, h1, h2, h3, h4 xs q.1, h5 ys q.2⟩
end
section
variable {X : Cx} {pins : List (Addr × Obj)} {σ : L2.St} {H : Hp} {s : Shared}
/-- x < y, both data -/
def rLtD (K : PySem.W.Frag) : R2 := fun x y H Q => ∃ d e, Dp K H x d ∧ Dp K H y e ∧ PySem.W.alike d e = true ∧ d ≠ .none ∧ d.depth ≤ 60 ∧ Q (.bl (PySem.W.dataLt d e)) H
theorem op_ltD (hu : X.A.units + 64 < cLine) : OpR X (compareOp .Lt) (rLtD X.K) := by
  intro pins s σ H x y v u Q I rx ry h
  obtain ⟨d, e, hd, he, al, ne, dp, q⟩ := h
  obtain ⟨as, r1⟩ := Dp.reads I d x v hd rx
  obtain ⟨bs, r2⟩ := Dp.reads I e y u he ry
  exact PySem.W.lt_data r1 r2 al ne (by have := Nat.min_le_left d.depth e.depth; omega) ⟨.bl _, H, I, rfl, q⟩
/-- a text against an item -/
theorem text_item (I : Inv X pins σ H s) {v : V} {u : Value} {k : Option Str} (r : RelV v u) (t : AsText H v k) (z : Str) (tk : Tok) {A : Around} (hu : A.units < cLine) : SeqAt.EqAt A s (.str z tk) u (decide (k = some z)) := by
  cases t with
  | str z' =>
    obtain ⟨t', rfl⟩ := r
    have e : decide (some z' = some z) = (z == z') := by
      rw [some_eq]
      by_cases c : z' = z
      · subst c
        simp
      · rw [beq_eq_false_iff_ne.mpr c, beq_eq_false_iff_ne.mpr fun q => c q.symm]
    rw [e]
    exact SeqAt.EqAt.str_str z tk z' t'
  | non =>
    cases r
    exact SeqAt.eqAt_back (by intro e; cases e) (SeqAt.RcAt.str_none z tk)
  | bl b =>
    cases r
    exact SeqAt.eqAt_back (by intro e; cases e) (SeqAt.RcAt.str_bool z tk b)
  | int i =>
    obtain ⟨t', rfl⟩ := r
    exact SeqAt.eqAt_back (by intro e; cases e) (SeqAt.RcAt.str_int z tk i t')
  | @lst a xs e =>
    cases r
    obtain ⟨_, its, n, _, h1⟩ := (show ObjOk X.prog X.w H s.heap a (.lst xs) from I.hok a _ e)
    exact SeqAt.eqAt_back (by intro e; cases e) (SeqAt.RcAt.str_list z tk ⟨_, h1, rfl, n, rfl⟩ hu)
  | @tup a xs e =>
    cases r
    obtain ⟨_, its, _, o, h1, h2, n, h3⟩ := (show ObjOk X.prog X.w H s.heap a (.tup xs) from I.hok a _ e)
    exact SeqAt.eqAt_back (by intro e; cases e) (SeqAt.RcAt.str_tuple z tk ⟨_, h1, h2, n, h3⟩ hu)
  | @dic a kvs e =>
    cases r
    obtain ⟨dd, es, n, sl, h1⟩ := dict_get I e
    exact SeqAt.eqAt_back (by intro e; cases e) (SeqAt.RcAt.str_dict z tk h1 hu)
/-- t in ((z,), ..), t a tuple -/
def rInTags : R2 := fun x y H Q => ∃ a b xs ks ts zs, x = .ref a ∧ y = .ref b ∧ H a = some (.tup xs) ∧ H b = some (.tup (ts.map V.ref)) ∧ Texts H xs ks ∧ List.length ts = List.length zs ∧ (∀ p ∈ ts.zip zs, H p.1 = some (.tup [.str p.2])) ∧ Q (.bl (zs.any (isTag ks))) H
theorem tagV (I : Inv X pins σ H s) {a t : Addr} {xs : List V} {ks : List (Option Str)} {z : Str} (ea : H a = some (.tup xs)) (et : H t = some (.tup [.str z])) (tx : Texts H xs ks) {A : Around} (hu : A.units + 1 < cLine) : SeqAt.EqAt A s (.ref t) (.ref a) (isTag ks z) := by
  obtain ⟨_, its, r1, o, h1, h2, n, h3⟩ := (show ObjOk X.prog X.w H s.heap a (.tup xs) from I.hok a _ ea)
  obtain ⟨_, its2, r2, o2, g1, g2, n2, g3⟩ := (show ObjOk X.prog X.w H s.heap t (.tup [.str z]) from I.hok t _ et)
  have la : s.heap.IsTuple a its.toArray := ⟨_, h1, h2, n, h3⟩
  cases r2 with
  | @cons _ w _ ws rz rn =>
    cases rn
    obtain ⟨tk, rfl⟩ := rz
    have lb : s.heap.IsTuple t #[.str z tk] := ⟨_, g1, g2, n2, g3⟩
    by_cases same : t = a
    · subst same
      rw [ea] at et
      cases et
      cases tx with
      | cons t0 tr =>
        cases tr
        cases t0
        have z1 : isTag [some z] z = true := by simp [isTag]
        rw [z1]
        exact SeqAt.EqAt.same _
    have core : SeqAt.RcAt A s (.ref t) (.ref a) (isTag ks z) := by
      have c := SeqAt.RcAt.tuples (e := fun _ => isTag [ks.headD none] z) (A := A) lb la (Nat.lt_of_succ_lt hu) (fun j j1 j2 => ?_)
      · have e : ((List.range (min (#[Value.str z tk] : Array Value).size its.toArray.size)).all (fun _ => isTag [ks.headD none] z) && (#[Value.str z tk] : Array Value).size == its.toArray.size) = isTag ks z := by
          cases r1 with
          | nil =>
            cases tx
            simp [isTag]
          | @cons v w vs ws r t =>
            cases tx with
            | @cons _ k _ kr t0 tr =>
              cases t with
              | nil =>
                cases tr
                simp [List.range_succ]
              | cons r' t' =>
                cases tr
                simp [isTag]
        rw [e] at c
        exact c
      · have j0 : j = 0 := by
          have : j < 1 := j1
          omega
        subst j0
        cases r1 with
        | nil => exact absurd j2 (by simp)
        | @cons v w vs ws r t =>
          cases tx with
          | cons t0 tr => exact text_item I r t0 z tk hu
    exact SeqAt.EqAt.of_refs same core
theorem op_inTags (hu : X.A.units + 2 < cLine) : OpR X (compareOp .In) rInTags := by
  intro pins s σ H x y v u Q I rx ry h
  obtain ⟨a, b, xs, ks, ts, zs, rfl, rfl, ea, eb, tx, ll, et, q⟩ := h
  cases rx
  cases ry
  obtain ⟨_, its, r1, o, h1, h2, n, h3⟩ := (show ObjOk X.prog X.w H s.heap b (.tup (ts.map V.ref)) from I.hok b _ eb)
  have its_ : its = ts.map Value.ref := by
    clear eb h3 et ll
    revert r1
    generalize ts = ts
    intro r1
    induction ts generalizing its with
    | nil =>
      cases r1
      rfl
    | cons t ts ih =>
      cases r1 with
      | cons r rr =>
        cases r
        rw [ih _ rr]
        rfl
  subst its_
  have lb : s.heap.IsTuple b (ts.map Value.ref).toArray := ⟨_, h1, h2, n, h3⟩
  let e : Value → Bool := fun v => match v with
    | .ref t => (match (ts.zip zs).find? fun p => p.1 == t with
      | some p => isTag ks p.2
      | none => false)
    | _ => false
  have he : ∀ p ∈ ts.zip zs, e (.ref p.1) = isTag ks p.2 := fun p hp => by
    show (match (ts.zip zs).find? fun q => q.1 == p.1 with
      | some p => isTag ks p.2
      | none => false) = _
    cases f : (ts.zip zs).find? fun q => q.1 == p.1 with
    | none => exact absurd (List.find?_eq_none.mp f p hp) (by simp)
    | some q' =>
      have m := List.mem_of_find?_eq_some f
      have c : q'.1 = p.1 := by
        have z := List.find?_some f
        simpa using z
      have e1 := et q' m
      have e2 := et p hp
      rw [c, e2] at e1
      injection e1 with e1
      injection e1 with e1
      injection e1 with e1 _
      injection e1 with e1
      show isTag ks q'.2 = _
      rw [e1]
  refine SeqAt.in_tupleAt e lb (fun w hw => ?_) ⟨.bl _, H, I, rfl, ?_⟩
  · obtain ⟨t, ht, rfl⟩ := List.mem_map.mp (by simpa using hw : w ∈ ts.map Value.ref)
    obtain ⟨j, hj⟩ := List.mem_iff_getElem?.mp ht
    obtain ⟨z, hz⟩ : ∃ z, zs[j]? = some z := by
      obtain ⟨l, _⟩ := List.getElem?_eq_some_iff.mp hj
      exact ⟨_, List.getElem?_eq_getElem (ll ▸ l)⟩
    have hp : (t, z) ∈ ts.zip zs := List.mem_iff_getElem?.mpr ⟨j, by rw [List.getElem?_zip_eq_some]; exact ⟨hj, hz⟩⟩
    rw [he _ hp]
    exact tagV I ea (et _ hp) tx (A := X.A.in1) (by show X.A.in1.units + 1 < cLine; have z : X.A.in1.units ≤ X.A.units + 1 := by simp [Around.in1]
                                                    omega)
  · have z : (ts.map Value.ref).toArray.any e = zs.any (isTag ks) := by
      rw [List.any_toArray]
      clear eb h3 lb h1 h2 r1
      have key : ∀ (ts : List Addr) (zs : List Str), ts.length = zs.length → (∀ p ∈ ts.zip zs, e (.ref p.1) = isTag ks p.2) → (ts.map Value.ref).any e = zs.any (isTag ks) := by
        intro ts
        induction ts with
        | nil =>
          intro zs l _
          cases zs with
          | nil => rfl
          | cons _ _ => cases l
        | cons t ts ih =>
          intro zs l h
          cases zs with
          | nil => cases l
          | cons z zs =>
            rw [List.map_cons, List.any_cons, List.any_cons, h (t, z) (by simp), ih zs (Nat.succ.inj l) fun p hp => h p (by rw [List.zip_cons_cons]; exact List.mem_cons_of_mem _ hp)]
      exact key ts zs ll he
    rw [z]
    exact q
/-- repr of data, or of an empty dict -/
theorem call_reprE (gd : X.A.guards = some []) (hu : X.A.units + 70 < cLine) : CallR X (.builtin "repr") (fun xs H Q => rRepr X.K xs H Q ∨ rReprNil xs H Q) := by
  intro pins s σ H xs us Q I r h
  rcases h with h | h
  · exact call_repr gd hu pins s σ H xs us Q I r h
  · exact call_reprNil gd hu pins s σ H xs us Q I r h
end
end L2.My
/-! try: body, several clauses «except C as n», all with one name n -/
namespace L2.My
open PySem PySem.Spec PyProof.Rows
abbrev Suite := Addr → Value → Option Addr → TS
structure Clause where
  cls : Value
  run : Suite
def clr (i : Nat) (D : Ends) : Ends :=
  { nx := fun σ H => D.nx (σ.set i none) H
    rt := D.rt
    bk := fun σ H => D.bk (σ.set i none) H
    ct := fun σ H => D.ct (σ.set i none) H }
/-- what the clauses wish: the first one that takes it runs its suite with the error in slot i -/
def wish (K : PySem.W.Frag) (i : Nat) (out : WX) (D : Ends) : List Clause → WX
  | [] => out
  | k :: r => fun c d σ H => ∃ b, PySem.W.exmOne K c k.cls = some b ∧
      (b = true → ∀ a, H a = none → k.run a c d (clr i D) (σ.set i (some (.ref a))) H) ∧
      (b = false → wish K i out D r c d σ H)
inductive ClOk (X : Cx) (n : Str) : List ExceptHandler → List Clause → Prop
  | nil : ClOk X n [] []
  | cons {x : Str} {c : Value} {ts : Suite} {b0 : Stmt} {bs : List Stmt} {q1 q2 : Pos} {hs : List ExceptHandler} {l : List Clause}
      (named : Names X x c)
      (body : ∀ (a : Addr) (o : Obj) (k : Value) (d : Option Addr) (pn : List (Addr × Obj)), Zc k d o → (∃ v, o.data = .fields v) →
        PSs (X.suite a ((a, o) :: pn)) (b0 :: bs) (ts a k d))
      (more : ClOk X n hs l) :
      ClOk X n (.ExceptHandler (some (.Name x q1)) (some n) (b0 :: bs) q2 :: hs) (⟨c, ts⟩ :: l)
section
variable {X : Cx} {n : Str} {i : Nat} {out : WX} {pins : List (Addr × Obj)} {σ : St} {H : Hp} {D : Ends}
/-- an exception at a that has come down to the try's frame -/
structure Down (X : Cx) (pins : List (Addr × Obj)) (σ : St) (H : Hp) (a : Addr) (B : Heap) (c : Value) (d : Option Addr) (sI t : Shared) : Prop where
  inv : Inv X pins σ H sI
  gr : ∀ b o, sI.heap.get? b = some o → b ∉ frs X.stack → B.get? b = some o
  up : sI.heap.UpToSlots t.heap
  fl : HandSPX.FlyingZ B (X.env :: X.outer) a (Zc c d) t.heap
  nil : H a = none
  os : t.os = sI.os
  bare : AllBare t.gens
/-- the same a few turns of the frames later -/
theorem Down.on {a : Addr} {B h : Heap} {c : Value} {d : Option Addr} {sI t : Shared} (w : Down X pins σ H a B c d sI t)
    (fl : HandSPX.FlyingZ B (X.env :: X.outer) a (Zc c d) h) (up : t.heap.UpToSlots h) : Down X pins σ H a B c d sI { t with heap := h } :=
  ⟨w.inv, w.gr, w.up.trans up, fl, w.nil, w.os, w.bare⟩
/-- the suite's own state -/
theorem Down.held (fr : X.env.frame = some X.env.locals) {a : Addr} {B : Heap} {c : Value} {d : Option Addr} {sI t : Shared} (w : Down X pins σ H a B c d sI t) :
    ∃ o, t.heap.get? a = some o ∧ Zc c d o ∧ (∃ v, o.data = .fields v) ∧ Inv (X.suite a ((a, o) :: (X.pn ++ pins))) [] σ H t ∧ X.K.In t.heap := by
  have J : Inv X pins σ H t := w.inv.landed w.gr w.fl.1 w.up w.os w.bare
  obtain ⟨o, v, eo, z, dv⟩ := w.fl.there
  have apart : a ∉ frs (X.env :: X.outer) := by
    intro hm
    obtain ⟨_, o2, e2, nf⟩ := w.fl.2.2.1.mem hm
    rw [eo] at e2
    cases e2
    exact nf _ dv
  have away : ∀ e ∈ X.env :: X.outer, e.frame ≠ some a := by
    intro e he q
    exact apart (List.mem_filterMap.mpr ⟨e, he, q⟩)
  refine ⟨o, eo, z, ⟨v, dv⟩, J.suite eo dv w.nil ?_ ?_, J.kIn⟩
  · intro q
    exact away _ (List.mem_cons_self ..) (q ▸ fr)
  · intro q
    obtain ⟨e, he, q⟩ := List.mem_filterMap.mp q
    exact away e (List.mem_cons_of_mem _ he) q
/-- no clause takes it: it flies on -/
theorem Down.pass (st : X.stack = X.env :: X.outer) (fr : X.env.frame = some X.env.locals) (tk : Takes X out) {a : Addr} {B : Heap} {c : Value} {d : Option Addr} {sI t : Shared} (w : Down X pins σ H a B c d sI t)
    (q : out c d σ H) : wpAny (model X.prog X.w) X.A (handleBy (.ref a) X.env []) (SP X pins D) X.xe t := by
  obtain ⟨_, _, _, o, v, T, _, _, eo, _, dv, e1, _⟩ := id w.fl
  have go : wpAny (model X.prog X.w) X.A (setFlight (.ref a) X.env.frame)
      (fun _ t2 => wpAny (model X.prog X.w) X.A (throw (.ref a) : Sem Flow) (SP X pins D) X.xe t2) X.xe t := by
    rw [fr]
    refine HandSPX.setFlight_upZ w.fl ?_
    intro h2 held u2
    refine wpAny_throw (tk _ _ ⟨a, B, sI, pins, σ, H, c, d, rfl, w.inv, w.gr, w.up.trans u2, ?_, w.nil, w.os, w.bare, q⟩)
    rw [st]
    exact Or.inr (Or.inr held)
  refine wpAny_handleBy_nil ?_
  unfold PySem.passOn
  refine wpAny_bind (wpAny_field eo dv e1 ?_)
  have nt : ¬ (Value.ref T == Value.none) = true := by simp
  rw [if_neg nt]
  first
    | exact wpAny_bind go
    | exact wpAny_bind (wpAny_pure (wpAny_bind go))
/-- the clauses, one after the other -/
theorem Down.clauses (st : X.stack = X.env :: X.outer) (fr : X.env.frame = some X.env.locals) (nd : X.N.Nodup) (hi : X.N[i]? = some n) (loc : X.env.kindOf n = some .local) (tk : Takes X out)
    {a : Addr} {B : Heap} {c : Value} {d : Option Addr} {sI t : Shared} (w : Down X pins σ H a B c d sI t) {hs : List ExceptHandler} {l : List Clause} (k : ClOk X n hs l) :
    wish X.K i out D l c d σ H → wpAny (model X.prog X.w) X.A (handleBy (.ref a) X.env hs) (SP X pins D) X.xe t := by
  induction k with
  | nil => exact fun q => w.pass st fr tk q
  | @cons x cc ts b0 bs q1 q2 hs l named body more ih =>
    rintro ⟨b, eb, yes, no⟩
    obtain ⟨o, eo, z, _, S, kin⟩ := w.held fr
    have ty : PySem.W.Looks (model X.prog X.w) t.heap (typeOf (.ref a)) c :=
      fun _ _ _ _ k2 q => wpAny_typeOf_ref (k2 _ _ eo) (by rw [z.1]; exact q)
    have said := PySem.W.exm_one (M := model X.prog X.w) kin ty eb
    have ask : ∀ {Q E : Value → Shared → Prop}, Q cc t →
        wpAny (model X.prog X.w) (X.A.mark (some (.ref a))) (eval (.Name x q1) X.env) Q E t := by
      intro Q E q
      rcases named with ⟨gl, db, mine | ⟨no1, bt, no2⟩⟩
      · exact ld_glob S gl mine q db
      · exact ld_blt S gl no1 bt q no2 db
    refine wpAny_handleBy_cons (codeAny_handlers_test (ask (said.here ?_))) (by intro q; cases q)
    cases b with
    | false =>
      show wpAny _ X.A (handleBy (.ref a) X.env hs) _ _ _
      exact ih (no rfl)
    | true =>
      refine codeAny_handlers_suite_as (HandSPX.lands_againZ w.fl fun h2 f2 u2 => ?_)
      obtain ⟨o2, eo2, z2, dv2, S2, _⟩ := (w.on f2 u2).held fr
      have ok := w.inv.ok
      refine store_ok (X := X.suite a ((a, o2) :: (X.pn ++ pins))) (v := .ref a) S2 nd hi (.inl loc) rfl (fun s5 S5 => ?_) (.inr loc)
      refine wpAny_mono ((body a o2 c d (X.pn ++ pins) z2 dv2).run [] s5 _ H _ S5 (yes rfl a w.nil)) ?_ (fun _ _ e => e.elim)
      intro f s6 r
      have away : ∀ {σ6 : St} {H6 : Hp} {Q : Shared → Prop}, Inv (X.suite a ((a, o2) :: (X.pn ++ pins))) [] σ6 H6 s6 →
          (∀ s7, Inv X pins (σ6.set i none) H6 s7 → Q s7) →
          wpAny (model X.prog X.w) X.A (do bindName X.env n .none; unbindBehindTheSuite X.env n q2) (fun _ s7 => Q s7) X.xe s6 :=
        fun S6 q => gone_ok (S6.unsuite ok) nd hi loc q
      cases f with
      | ret u => obtain ⟨v6, σ6, H6, S6, r6, q6⟩ := r; exact away S6 fun _ J => ⟨_, _, _, J, r6, q6⟩
      | next => obtain ⟨σ6, H6, S6, q6⟩ := r; exact away S6 fun _ J => ⟨_, _, J, q6⟩
      | cont => obtain ⟨σ6, H6, S6, q6⟩ := r; exact away S6 fun _ J => ⟨_, _, J, q6⟩
      | brk => obtain ⟨σ6, H6, S6, q6⟩ := r; exact away S6 fun _ J => ⟨_, _, J, q6⟩
/-- THE RULE -/
theorem ps_try_clauses {body : List Stmt} {h0 : ExceptHandler} {hs : List ExceptHandler} {l : List Clause} {tb : WX → TS} {pos : Pos}
    (st : X.stack = X.env :: X.outer) (fr : X.env.frame = some X.env.locals) (nd : X.N.Nodup) (hi : X.N[i]? = some n) (loc : X.env.kindOf n = some .local) (tk : Takes X out)
    (hb : ∀ (W : WX) (pn : List (Addr × Obj)) (xe : Value → Shared → Prop), Takes (X.tr pn xe) W → PassesOwn (model X.prog X.w) X.A X.env xe → PSs (X.tr pn xe) body (tb W))
    (k : ClOk X n (h0 :: hs) l) : PS X (.Try body (h0 :: hs) [] [] pos) (fun D σ H => tb (wish X.K i out D l) D σ H) := by
  refine ⟨fun pins s σ H D I h => wpAny_Try_except ?_⟩
  have ok := I.ok
  have frames : X.A.frames = some (X.env :: X.outer) := ok.frames.trans (congrArg some st)
  obtain ⟨xe, exe⟩ : ∃ xe : Value → Shared → Prop, xe = fun e s1 => wpAny (model X.prog X.w) X.A (noteFrame e X.env)
      (fun _ s2 => wpAny (model X.prog X.w) X.A (setFlight e none) (fun _ s3 => wpAny (model X.prog X.w) X.A (handleBy e X.env (h0 :: hs)) (SP X pins D) X.xe s3) X.xe s2) X.xe s1 := ⟨_, rfl⟩
  have caught : Takes (X.tr (X.pn ++ pins) xe) (wish X.K i out D l) := by
    rintro u s1 ⟨a, B, sI, pins1, σ1, H1, c, d, rfl, J, gr, up, sky, na, os, ag, q⟩
    show xe (.ref a) s1
    rw [exe]
    have sky1 : Sky B (X.env :: X.outer) a (Zc c d) X.env.locals s1.heap := st ▸ sky
    refine Sky.land Zc.steady frames fr sky1 fun h3 f3 u3 => ?_
    have w : Down X pins σ1 H1 a B c d sI { s1 with heap := h3 } := ⟨J.ofTry ok, gr, up.trans u3, f3, na, os, ag⟩
    exact w.clauses st fr nd hi loc tk k q
  have own : PassesOwn (model X.prog X.w) X.A X.env xe := by
    rw [exe]
    exact PassesOwn.looking
  refine wpAny_mono ((hb _ (X.pn ++ pins) xe caught own).run [] s σ H D (I.toTry _) h) ?_ ?_
  · intro f s1 r
    cases f with
    | ret u => obtain ⟨v, σ1, H1, J, r1, q⟩ := r; exact ⟨v, σ1, H1, J.ofTry ok, r1, q⟩
    | next => obtain ⟨σ1, H1, J, q⟩ := r; exact wpAny_execs_nil ⟨σ1, H1, J.ofTry ok, q⟩
    | cont => obtain ⟨σ1, H1, J, q⟩ := r; exact ⟨σ1, H1, J.ofTry ok, q⟩
    | brk => obtain ⟨σ1, H1, J, q⟩ := r; exact ⟨σ1, H1, J.ofTry ok, q⟩
  · intro e s1 he
    have he' : xe e s1 := he
    rw [exe] at he'
    exact he'
end
end L2.My
/-! an own error class over any of the eleven built-in bases, whose __init__(self, value) keeps value -/
namespace L2.My
open PySem PySem.Spec PyProof.Rows PySem.W PySem.Calls
def initArgs (p q : Pos) : Arguments :=
  { posonlyargs := [], args := [⟨"self", none, p⟩, ⟨"value", none, q⟩], vararg := none, kwonlyargs := [], kw_defaults := [], kwarg := none, defaults := [] }
def initBody (a b c d : Pos) : List Stmt := [.Assign [.Attribute (.Name "self" a) "value" b] (.Name "value" c) d]
def initScope : Scope :=
  { kind := .function, names := [(Str.ofString "self", .local), (Str.ofString "value", .local)], isGenerator := false, isCoroutine := false, more := [] }
/-- what the top's written part says of the class (at C, called nm in the module) and of its __init__ (at f) -/
structure ErrCls (K : Frag) (mg : Str → Option Value) (nm : Str) (qi : Str) (newId : String) (bmB : List Value) (C f : Addr) : Prop where
  gl : mg nm = some (.ref C)
  cl : ∃ n q N bs bm sn sub ab col dd k0 k1 k2 k3 k5, K.lookup C = some (excClassObj n q C N bs bm true sn sub ab col dd k0 k1 k2 k3 k5 newId) ∧ excTail bmB bm = true
  sa : findIn K (.ref C) "__setattr__" = some (some (.builtin "object.__setattr__"))
  ga : findIn K (.ref C) "__getattribute__" = some (some (.builtin "BaseException.__getattribute__"))
  gg : findIn K (.ref C) "__getattr__" = some none
  no : findIn K (.ref C) "value" = some none
  ini : findIn K (.ref C) "__init__" = some (some (.ref f))
  tf : typeIn K (.ref f) = some (.type "function")
  kp : keepIn K (.ref C) = true
  sub : subIn K (.ref C) (.type "BaseException") = some true
  ty : typeIn K (.ref C) = some (.type "type")
  hd : hasDictIn K C = true
  fn : ∃ (oc : Value) (od : Option Addr) (doc pm : Value) (an : Option Addr) (cd ct : Value) (sl : Array (Option Value)) (p q a b c d : Pos),
    K.lookup f = some ⟨oc, od, .func (fnOf "__init__" qi (initArgs p q) (initBody a b c d) initScope .none .none doc pm an cd ct), sl⟩ ∧ codeIn K cd qi = true
section
variable {prog : Program} {w : World} {A : Around} {E : Value → Shared → Prop} {R : Result → Shared → Prop} {s : Shared} {K : Frag} {mg : Str → Option Value}
variable {nm qi : Str} {B newId initId : String} {bmB : List Value} {C f : Addr}
theorem ErrCls.cls (T : ErrCls K mg nm qi newId bmB C f) : ∃ cd bm, clsIn K C = some cd ∧ cd.mro = .ref C :: bm ∧ excTail bmB bm = true ∧ cd.hasDict = true := by
  obtain ⟨n, q, N, bs, bm, sn, sub, ab, col, dd, k0, k1, k2, k3, k5, h, t⟩ := T.cl
  refine ⟨{ name := n, bases := bs, mro := .ref C :: bm, ns := N, qualname := q, hasDict := true, slotNames := sn, subclasses := sub, abstract := ab, collection := col, hasDel := false }, bm, ?_, rfl, t, rfl⟩
  unfold clsIn
  rw [h] <;> rfl
theorem ErrCls.over (T : ErrCls K mg nm qi newId bmB C f) : excOver K C bmB = true := by
  obtain ⟨cd, bm, h, m, t, _⟩ := T.cls
  unfold excOver
  rw [h]
  simp [m, t]
theorem ErrCls.taker (T : ErrCls K mg nm qi newId bmB C f) : takerIn K C "value" = some none := by
  unfold takerIn
  rw [T.no]
  rfl
/-- the first field of a fresh exception at x -/
theorem first_field (SF : StoreFacts B bmB "object.__setattr__" "object") (T : ErrCls K mg nm qi newId bmB C f) {x t0 : Addr} {tk : Tok} {v : Value} (X : K.In s.heap) (hx : s.heap.get? x = some (HandSPX.excO C t0))
    (hq : ∀ h' tk' dx, (∀ b o, b ≠ x → s.heap.get? b = some o → h'.get? b = some o) → s.heap.objs.size ≤ dx → dx ≠ x →
      h'.get? x = some { cls := .ref C, dict := some dx, data := .fields #[.ref t0, .none, .none, .none, .bool false, .none] } →
      h'.Ns1 dx (fun y => if y = "value" then some v else none) → R (.ok (.ret .none)) { s with heap := h', toks := tk' }) :
    codeAny (model prog w) A (.call (.builtin "object.__setattr__") ⟨[.ref x, .str "value" tk, v], []⟩) R s := by
  obtain ⟨cd, bm, hcd, _, _, dic⟩ := T.cls
  have I : InstAt s.heap x (HandSPX.excO C t0) C none := ⟨hx, rfl, rfl, trivial⟩
  have far : x ≠ s.heap.objs.size := Nat.ne_of_lt (Heap.lt_size hx)
  refine osa_openX SF X I T.over T.taker fun b => ?_
  have Lc : Looks (model prog w) s.heap (classData C) cd := looks_clsIn X hcd
  obtain ⟨hp, g, d, t, os⟩ := s
  obtain ⟨n1, bs1, mro1, ns1, q1, hd1, sn1, sb1, ab1, co1, del1⟩ := cd
  dsimp only at dic
  subst dic
  dsimp only at hx far
  unfold Builtin.ObjectAttr.storeInOwnDict Builtin.ObjectAttr.ownDictForStores
  repeat (first | with_reducible refine HandSPX.store_in_new ?_ ?_ | with_reducible refine wpAny_loadPart_at hx ?_ | with_reducible refine Lc.at ?_ | wp_step)
  · exact ⟨_, #[], _, (Heap.get?_update_ne _ _ _ _ far.symm).trans (Heap.get?_push_at rfl rfl), rfl, fun e he => absurd he (by simp), fun _ => rfl⟩
  · intro h' tk' hn sb
    have hx1 : (hp.push { cls := .type "dict", data := .dict #[] }).get? x = some (HandSPX.excO C t0) := Heap.get?_push_of_some _ hx
    refine hq h' tk' hp.objs.size ?_ (Nat.le_refl _) far.symm ((sb.2 x far).trans (Heap.get?_update_self _ hx1 rfl)) hn
    intro b o nb e
    exact (sb.2 b (Nat.ne_of_lt (Heap.lt_size e))).trans ((Heap.get?_update_ne _ _ _ _ nb).trans (Heap.get?_push_of_some _ e))
theorem own_name {M : Model} {scope : Scope} {name x : Str} {L a : Addr} {cd v : Value} {m : Str → Option Value} {pos : Pos} {Q : Value → Shared → Prop}
    (hn : s.heap.Ns L m) (hv : m x = some v) (h : Q v s) (k1 : scope.kind = .function := by rfl) (k2 : (envOfC name scope L a cd).kindOf x = some .local := by rfl) (k3 : (x == ("__debug__" : Str)) = false := by decide) :
    wpAny M A (eval (.Name x pos) (envOfC name scope L a cd)) Q E s := wpAny_Name (wpAny_loadName_local k1 k2 hn hv h) k3
/-- what __init__ leaves of a fresh exception at x -/
structure Kept (h h' : Heap) (x C dx t : Addr) (v : Value) : Prop where
  old : ∀ b o, b ≠ x → h.get? b = some o → h'.get? b = some o
  me : h'.get? x = some { cls := .ref C, dict := some dx, data := .fields #[.ref t, .none, .none, .none, .bool false, .none] }
  far : h.objs.size ≤ dx
  ne : dx ≠ x
  ns : h'.Ns1 dx (fun y => if y = "value" then some v else none)
theorem ErrCls.init (SF : StoreFacts B bmB "object.__setattr__" "object") (T : ErrCls K mg nm qi newId bmB C f) {x t0 : Addr} {v : Value} (X : K.In s.heap) (lim : s.heap.NoLimit) (hx : s.heap.get? x = some (HandSPX.excO C t0))
    (room : A.depth < recursionLimit) (hq : ∀ h' tk dx, Kept s.heap h' x C dx t0 v → R (.ok (.ret .none)) { s with heap := h', toks := tk }) :
    codeAny (model prog w) A (.call (.ref f) ⟨[.ref x, v], []⟩) R s := by
  obtain ⟨oc, od, doc, pm, an, cd, ct, sl, p, q, a, b, c, d, lf, hcd⟩ := T.fn
  refine Att.call_fn (binds := [("self", .ref x), ("value", v)]) X lim lf hcd room (BindsTo.of_eq (by first | rfl | with_unfolding_all rfl)) (by first | rfl | decide | with_unfolding_all rfl) (fun s1 IC => ?_) rfl rfl rfl
  obtain ⟨h1, tk1, rfl⟩ := IC.toInCall.same
  have old : ∀ b o, s.heap.get? b = some o → h1.get? b = some o := IC.toInCall.keep
  have ns := IC.toInCall.ns
  have hx1 := old _ _ hx
  have X1 : K.In h1 := X.keeps old
  show wpAny _ _ (execs _ _) _ _ _
  refine wpAny_execs_cons (plainObj_wpAny_Assign_Attribute (own_name (v := v) ns (by first | rfl | with_unfolding_all rfl | kernel_rfl) (own_name (v := .ref x) ns (by first | rfl | with_unfolding_all rfl | kernel_rfl) ?_)))
  refine set_plain X1 (ox := HandSPX.excO C t0) (od := none) ⟨hx1, rfl, rfl, trivial⟩ T.sa (first_field SF T X1 hx1 fun h2 tk2 dx k2 far ne me n2 => ?_)
  show wpAny _ _ (execs _ _) _ _ _
  have more : s.heap.objs.size < h1.objs.size := ns.lt
  exact wpAny_execs_nil (hq h2 tk2 dx ⟨fun b o nb e => k2 b o nb (old b o e), me, Nat.le_of_lt (Nat.lt_of_lt_of_le more far), ne, n2⟩)
/-- a made error -/
structure Made (h h' : Heap) (e C d : Addr) (v : Value) : Prop where
  old : ∀ b o, h.get? b = some o → h'.get? b = some o
  new : h.objs.size ≤ e
  me : ∃ oe vs, h'.get? e = some oe ∧ oe.cls = .ref C ∧ oe.dict = some d ∧ oe.data = .fields vs ∧ vs[1]? = some .none
  far : h.objs.size ≤ d
  ne : d ≠ e
  ns : h'.Ns1 d (fun y => if y = "value" then some v else none)
theorem ErrCls.make (FB : ExcBaseFacts B newId initId bmB) (SF : StoreFacts B bmB "object.__setattr__" "object") (T : ErrCls K mg nm qi newId bmB C f) {v : Value} (X : K.In s.heap) (lim : s.heap.NoLimit) (room : A.depth + 1 < recursionLimit)
    (hq : ∀ h' tk e d, Made s.heap h' e C d v → R (.ok (.ret (.ref e))) { s with heap := h', toks := tk }) :
    codeAny (model prog w) A (.call (.ref C) ⟨[v], []⟩) R s := by
  obtain ⟨n, q, N, bs, bm, sn, sub, ab, col, dd, k0, k1, k2, k3, k5, lc, tl⟩ := T.cl
  obtain ⟨hp, g, dr, tk, os⟩ := s
  obtain ⟨hp2, ehp2⟩ : ∃ h2, h2 = (hp.push (kdv_tup [v])).push (HandSPX.excO C hp.objs.size) := ⟨_, rfl⟩
  have old : ∀ b o, hp.get? b = some o → hp2.get? b = some o := fun b o e => by
    rw [ehp2]
    exact Heap.get?_push_of_some _ (Heap.get?_push_of_some _ e)
  have me : hp2.get? (hp.objs.size + 1) = some (HandSPX.excO C hp.objs.size) := by rw [ehp2]; heap_get
  have z2 : hp2.objs.size = hp.objs.size + 1 + 1 := by rw [ehp2, Heap.size_push, Heap.size_push]
  refine HandSPX.call_own FB (fun Y => excTail_contains Y bm tl) (X _ _ lc) (looks_findIn X T.ini) (fun self => bind_fn X self T.tf) (by rw [sizeLine_eq]; exact (by decide : 1 ≤ 16777216)) ?_
  rw [← ehp2]
  refine ErrCls.init (s := ⟨hp2, g, dr, tk, os⟩) SF T (X.keeps old) (lim.keeps old) me room fun h' tk' dx k => ?_
  have o2 : ∀ b o, hp.get? b = some o → h'.get? b = some o := fun b o e =>
    k.old b o (Nat.ne_of_lt (Nat.lt_succ_of_lt (Heap.lt_size e))) (old b o e)
  have far := k.far
  dsimp only at far
  rw [z2] at far
  exact ⟨rfl, hq h' tk' _ dx ⟨o2, Nat.le_succ _, ⟨_, _, k.me, rfl, rfl, rfl, rfl⟩, Nat.le_trans (Nat.le_trans (Nat.le_succ _) (Nat.le_succ _)) far, k.ne, k.ns⟩⟩
end
theorem rel_value {v : V} {u : Value} (r : RelV v u) (g : Str) : RelO (List.lookup g [(("value" : Str), v)]) (if g = "value" then some u else none) := by
  by_cases e : g = "value"
  · rw [if_pos e, e, show List.lookup ("value" : Str) [(("value" : Str), v)] = some v by simp [List.lookup]]
    exact r
  · have e2 : (g == ("value" : Str)) = false := by simpa using e
    rw [if_neg e, show List.lookup g [(("value" : Str), v)] = none by simp [List.lookup, e2]]
    trivial
section
variable {X : Cx} {nm qi : Str} {B newId initId : String} {bmB : List Value} {C f : Addr}
/-- C(e) as what is raised: its own dict d is new and holds value -/
def tErr (C : Addr) (ta : TA) : L2.St → Hp → XK → Prop := fun σ H Q => ta σ H fun vs H1 => ∃ v, vs = [v] ∧ ∀ d, H1 d = none → Q (.ref C) (some d) (upd H1 d (.xd [(("value" : Str), v)]))
theorem pmk_err {a : Expr} {ta : TA} {p pos : Pos} {k : Nat} (FB : ExcBaseFacts B newId initId bmB) (SF : StoreFacts B bmB "object.__setattr__" "object") (T : ErrCls X.K X.mg nm qi newId bmB C f) (hr : Room k X.A) (ha : PA X [a] ta) (hg : Gl X nm)
    (hdb : (nm == ("__debug__" : Str)) = false := by decide)
    (he : starEach (a :: []) X.env = (false, eval a X.env) :: starEach [] X.env := by rfl) (hpl : (backTo pos (starEach [] X.env)).any (·.1) = false := by rfl) :
    PMk X (.Call (.Name nm p) [a] [] pos) (tErr C ta) := by
  intro pins s σ H Q I h
  refine wpAny_Call_Name_kw (ld_glob I hg T.gl (callWith_K (h₀ := X.base) I.ok.mod.kin T.kp (thn (ha.run pos pins s σ H _ I h) fun us s1 hh => ?_) he hpl) hdb)
  obtain ⟨vs, H1, I1, r1, v, rfl, q1⟩ := hh
  refine ⟨I1.kIn, ?_⟩
  obtain ⟨u, rfl, rv⟩ : ∃ u, us = [u] ∧ RelV v u := by
    cases r1 with
    | cons ru rn =>
      cases rn
      exact ⟨_, rfl, ru⟩
  show wpAny _ _ (call (.ref C) [u]) _ _ _
  have lim := I1.nolimit
  obtain ⟨hp, g, dr, tk, os⟩ := s1
  refine wpAny_call (ErrCls.make FB SF T I1.kIn lim (by have := hr.dp; omega) fun h' tk' e d M => ?_)
  show MkP X pins σ Q (.ref e) ⟨h', g, dr, tk', os⟩
  obtain ⟨oe, fv, eo, ec, ed, dt, e1⟩ := M.me
  obtain ⟨G, g1, g2⟩ := restrict h' fun b => decide (b ≠ e)
  have same : ∀ b, b ≠ e → G.get? b = h'.get? b := fun b nb => g1 b (decide_eq_true nb)
  have gone : G.get? e = none := g2 e (by simp)
  have old : ∀ b o, hp.get? b = some o → G.get? b = some o := fun b o z =>
    (same b (Nat.ne_of_lt (Nat.lt_of_lt_of_le (Heap.lt_size z) M.new))).trans (M.old b o z)
  have fresh : H1 e = none := I1.hok.fresh M.new
  have there : ObjOk X.prog X.w (upd H1 d (.xd [(("value" : Str), v)])) G d (.xd [(("value" : Str), v)]) :=
    ⟨_, M.ns.at (fun o z => (same d M.ne).trans z), rel_value rv⟩
  have J : Inv X pins σ (upd H1 d (.xd [(("value" : Str), v)])) ⟨G, g, dr, tk', os⟩ := I1.laid (t' := tk') old M.far there
  refine ⟨e, oe, fv, ⟨G, g, dr, tk', os⟩, _, .ref C, some d, rfl, J, ?_, gone, eo, ⟨ec, ed⟩, dt, e1, ?_, rfl, I1.bare, raises_own T.sub T.ty, q1 d (I1.hok.fresh M.far)⟩
  · intro b o z
    have nb : b ≠ e := by
      rintro rfl
      have z' : G.get? b = some o := z
      rw [gone] at z'
      cases z'
    exact (same b nb).symm.trans z
  · rw [upd_ne (Ne.symm M.ne)]
    exact fresh
def tRaiseErr (C : Addr) (W : WX) (ta : TA) : TS := fun _ σ H => tErr C ta σ H fun c d H' => W c d σ H'
theorem ps_raiseErr {a : Expr} {ta : TA} {W : WX} {p pos pos2 : Pos} {k : Nat} (FB : ExcBaseFacts B newId initId bmB) (SF : StoreFacts B bmB "object.__setattr__" "object") (hc : X.calm = true) (T : ErrCls X.K X.mg nm qi newId bmB C f) (hr : Room k X.A) (tk : Takes X W) (ha : PA X [a] ta) (hg : Gl X nm)
    (hdb : (nm == ("__debug__" : Str)) = false := by decide)
    (he : starEach (a :: []) X.env = (false, eval a X.env) :: starEach [] X.env := by rfl) (hpl : (backTo pos (starEach [] X.env)).any (·.1) = false := by rfl) :
    PS X (.Raise (some (.Call (.Name nm p) [a] [] pos)) none pos2) (tRaiseErr C W ta) := ps_raise hc tk (pmk_err FB SF T hr ha hg hdb he hpl)
/-- error.value in the suite of such an error -/
def tOfErr (C a : Addr) (cls : Value) (d : Option Addr) (te : TE) : TE := fun σ H Q => te σ H fun x H1 => x = .ref a ∧ cls = .ref C ∧ ∃ (dd : Addr) (v : V), d = some dd ∧ H1 dd = some (.xd [(("value" : Str), v)]) ∧ Q v H1
theorem pe_ofErr {a : Addr} {oe : Obj} {cls : Value} {d : Option Addr} {pn : List (Addr × Obj)} {e : Expr} {te : TE} {pos : Pos} (T : ErrCls X.K X.mg nm qi newId bmB C f) (hz : Zc cls d oe) (hf : ∃ vs, oe.data = .fields vs) (he : PE (X.suite a ((a, oe) :: pn)) e te)
    (hb : attributeBase e "value" X.env (eval e X.env) = eval e X.env := by rfl) :
    PE (X.suite a ((a, oe) :: pn)) (.Attribute e "value" pos) (tOfErr C a cls d te) := by
  refine ⟨fun pins s σ H Q I h => attr_of hb (thn (he.run pins s σ H _ I h) fun u s1 hh => ?_)⟩
  obtain ⟨x, H1, I1, rx, rfl, rfl, dd, v, rfl, ea, q⟩ := hh
  obtain rfl : u = Value.ref a := rx
  obtain ⟨vs, dt⟩ := hf
  obtain ⟨at_, _⟩ := I1.pin (a, oe) (List.mem_append_left _ List.mem_cons_self)
  obtain ⟨mA, hns, hr⟩ := (show ObjOk X.prog X.w H1 s1.heap dd (.xd [(("value" : Str), v)]) from I1.hok dd _ ea)
  obtain ⟨od, ho, hl⟩ := lookIn_ns hns
  obtain ⟨u, hu, ru⟩ := RelO.some_of (v := v) (o := mA "value") (by
    rw [← (show List.lookup ("value" : Str) [(("value" : Str), v)] = some v by simp [List.lookup])]
    exact hr "value")
  have J : InstAt s1.heap a oe C (some od) := ⟨at_, hz.1, by unfold notCls; rw [dt] <;> rfl, by rw [hz.2]; exact ho⟩
  exact HandSPX.exc_get I1.kIn J T.ga T.gg T.sub (findObj_own T.hd T.no rfl (by rw [hl, hu])) (handed_of ru) ⟨v, H1, I1.tok _, ru, q⟩
end
end L2.My
namespace L2
open PySem PySem.Spec PyProof.Rows
def dKw (d : Value) : List (Str × Value) := [(Str.ofString "default", d)]

theorem maxD_args (a d : Value) : argsOk "max" ⟨[a], dKw d⟩ := by unfold argsOk; kernel_rfl
section
variable {prog : Program} {w : World} {A : Around} {R : Result → Shared → Prop} {I S : Addr} {d : Value} {fp wr : List Addr} {n : Nat} {P : Nat → Value → Prop} {Sw : Nat → Heap → Prop}
/-- behind the item j: the best of the items up to it is kept -/
theorem maxD_on (W : Walks prog w A.in1 I fp wr n P Sw) (bt : Nat → Nat → Bool) (cmp : CmpOf prog w A.in1 .Gt P bt) (nS : S ∉ fp) (k : Nat) :
    ∀ (j : Nat) (s : Shared) (v : Value) (c : Nat), n = j + 1 + k → Sw (j + 1) s.heap → P (argBest bt j) v → s.heap.get? S = some { cls := .type "list", dict := none, data := .seq #[v, v] c, slots := #[] } →
      (∀ x h tk, P (argBest bt (n - 1)) x → (∀ b o, b ∉ wr → b ≠ S → s.heap.get? b = some o → h.get? b = some o) → R (.ok (.ret x)) { s with heap := h, toks := tk }) →
      codeAny (model prog w) A (.builtin "max.loop" ⟨[.ref I, .none, .ref S], dKw d⟩) R s := by
  have wS : S ∉ wr := fun h => nS (W.sub _ h)
  have nm : (toString "max" ++ toString ".loop" : String) = "max.loop" := by decide
  induction k with
  | zero =>
    intro j s v c hn st hv hS hR
    have hj : j + 1 = n := hn.symm
    refine codeAny_builtin PySem.F.entry_max_loop ?_
    rw [Around.under_plainId PySem.F.plain_max_loop _]
    show wpAny _ A.in1 (seqItems? (.ref S) >>= _) _ _ s
    refine wpAny_bind (wpAny_seqItems hS rfl ?_)
    show wpAny _ A.in1 (tryCatch (pyNext (.ref I)) _ >>= _) _ _ s
    refine wpAny_bind (wpAny_tryCatch (W.done s _ _ (hj ▸ st) fun h tk hk => ?_))
    show wpAny _ A.in1 (updateSeq S (fun _ => #[]) >>= _) _ _ _
    refine wpAny_bind (wpAny_updateSeq (hk S _ wS hS) rfl (wpAny_bind (wpAny_letGo (wpAny_pure ?_))))
    exact hR v _ tk (by rw [← hj]; exact hv) fun b o b1 b2 e => (Heap.get?_update_other _ _ (Ne.symm b2)).trans (hk b o b1 e)
  | succ k ih =>
    intro j s v c hn st hv hS hR
    refine codeAny_builtin PySem.F.entry_max_loop ?_
    rw [Around.under_plainId PySem.F.plain_max_loop _]
    show wpAny _ A.in1 (seqItems? (.ref S) >>= _) _ _ s
    refine wpAny_bind (wpAny_seqItems hS rfl ?_)
    show wpAny _ A.in1 (tryCatch (pyNext (.ref I)) _ >>= _) _ _ s
    refine wpAny_bind (wpAny_tryCatch (W.item (j + 1) s _ _ (by omega) st fun x h tk hx st2 hk => ?_))
    have hS2 := hk S _ wS hS
    show wpAny _ A.in1 (tryCatch (holding [x, x] (richCompare .Gt x v >>= _)) _ >>= _) _ _ _
    refine wpAny_bind (wpAny_tryCatch (wpAny_holding (wpAny_bind (cmp (j + 1) (argBest bt j) x v _ _ _ hx hv ?_))))
    refine wpAny_bind (wpAny_holding (wpAny_truthy_bool (wpAny_bind (wpAny_letGo (wpAny_pure ?_)))))
    cases hb : bt (j + 1) (argBest bt j) with
    | true =>
      simp only [if_true]
      refine wpAny_bind (wpAny_updateSeq hS2 rfl (wpAny_bind (wpAny_letGo ?_)))
      rw [nm]
      refine wpAny_pure ⟨plainId_quiet PySem.F.plain_max_loop _, ih (j + 1) _ x _ (by omega) (W.frame _ _ _ st2 fun b b1 o e => ?_) (by simp only [argBest, hb, if_true]; exact hx) (Heap.get?_update_self _ hS2 rfl) fun y h2 tk2 hy hk2 => ?_⟩
      · exact (Heap.get?_update_other _ _ (fun q : S = b => nS (by rw [q]; exact b1))).trans e
      · exact hR y h2 tk2 hy fun b o b1 b2 e => hk2 b o b1 b2 ((Heap.get?_update_other _ _ (Ne.symm b2)).trans (hk b o b1 e))
    | false =>
      simp only [Bool.false_eq_true, if_false]
      refine wpAny_bind (wpAny_letGo ?_)
      rw [nm]
      exact wpAny_pure ⟨plainId_quiet PySem.F.plain_max_loop _, ih (j + 1) _ v c (by omega) st2 (by simp only [argBest, hb, Bool.false_eq_true, if_false]; exact hv) hS2 fun y h2 tk2 hy hk2 =>
        hR y h2 tk2 hy fun b o b1 b2 e => hk2 b o b1 b2 (hk b o b1 e)⟩
/-- the whole walk: the default where there is no item -/
theorem maxD_walk (W : Walks prog w A.in1 I fp wr n P Sw) (bt : Nat → Nat → Bool) (cmp : CmpOf prog w A.in1 .Gt P bt) (nS : S ∉ fp) {s : Shared} {c : Nat} (st : Sw 0 s.heap)
    (hS : s.heap.get? S = some { cls := .type "list", dict := none, data := .seq #[] c, slots := #[] })
    (h0 : n = 0 → ∀ h tk, (∀ b o, b ∉ wr → b ≠ S → s.heap.get? b = some o → h.get? b = some o) → R (.ok (.ret d)) { s with heap := h, toks := tk })
    (hR : 0 < n → ∀ x h tk, P (argBest bt (n - 1)) x → (∀ b o, b ∉ wr → b ≠ S → s.heap.get? b = some o → h.get? b = some o) → R (.ok (.ret x)) { s with heap := h, toks := tk }) :
    codeAny (model prog w) A (.builtin "max.loop" ⟨[.ref I, .none, .ref S], dKw d⟩) R s := by
  have wS : S ∉ wr := fun h => nS (W.sub _ h)
  have nm : (toString "max" ++ toString ".loop" : String) = "max.loop" := by decide
  refine codeAny_builtin PySem.F.entry_max_loop ?_
  rw [Around.under_plainId PySem.F.plain_max_loop _]
  show wpAny _ A.in1 (seqItems? (.ref S) >>= _) _ _ s
  refine wpAny_bind (wpAny_seqItems hS rfl ?_)
  show wpAny _ A.in1 (tryCatch (pyNext (.ref I)) _ >>= _) _ _ s
  by_cases hn : n = 0
  · refine wpAny_bind (wpAny_tryCatch (W.done s _ _ (hn ▸ st) fun h tk hk => ?_))
    show wpAny _ A.in1 (rule _ >>= _) _ _ _
    refine wpAny_bind (wpAny_rule (wpAny_pure ?_))
    exact h0 hn _ tk fun b o b1 _ e => hk b o b1 e
  · refine wpAny_bind (wpAny_tryCatch (W.item 0 s _ _ (by omega) st fun x h tk hx st2 hk => ?_))
    have hS2 := hk S _ wS hS
    show wpAny _ A.in1 (updateSeq S (fun _ => #[x, x]) >>= _) _ _ _
    refine wpAny_bind (wpAny_updateSeq hS2 rfl ?_)
    rw [nm]
    refine wpAny_pure ⟨plainId_quiet PySem.F.plain_max_loop _, maxD_on W bt cmp nS (n - 1) 0 _ x _ (by omega) (W.frame _ _ _ st2 fun b b1 o e => ?_) hx (Heap.get?_update_self _ hS2 rfl) fun y h2 tk2 hy hk2 => ?_⟩
    · exact (Heap.get?_update_other _ _ (fun q : S = b => nS (by rw [q]; exact b1))).trans e
    · exact hR (by omega) y h2 tk2 hy fun b o b1 b2 e => hk2 b o b1 b2 ((Heap.get?_update_other _ _ (Ne.symm b2)).trans (hk b o b1 e))
end
section
variable {prog : Program} {w : World} {A : Around} {E : Value → Shared → Prop} {s : Shared} {l : Addr} {its : List Value} {ns : List Int} {Q : Value → Shared → Prop} {d : Value}
theorem maxD_raw (hh : A.handled = none) (hl : s.heap.IsList l its.toArray) (hi : IntsAre its ns)
    (h0 : ns = [] → ∀ h tk, (∀ b o, s.heap.get? b = some o → h.get? b = some o) → Q d { s with heap := h, toks := tk })
    (h : ∀ h' tk M t', (∀ b o, s.heap.get? b = some o → h'.get? b = some o) → M ∈ ns → (∀ a, a ∈ ns → a ≤ M) → Q (.int M t') { s with heap := h', toks := tk }) :
    wpAny (model prog w) A (call (.builtin "max") [.ref l] (dKw d)) Q E s := by
  obtain ⟨xs, e⟩ := hi.allInts.items
  have hn : numsOf (intItems xs).toList = ns := by rw [← e]; exact hi.numsOf
  rw [nums_intItems] at hn
  subst hn
  rw [e] at hl
  have nm : (toString "max" ++ toString ".loop" : String) = "max.loop" := by decide
  refine PyProof.Rows.kmk_tree PySem.F.kind_max PySem.F.plain_max PySem.F.entry_max (maxD_args _ _) ?_
  show wpAny _ A.in1 (Builtin.Builtins.bindParams "max" ["key", "default"] 0 ⟨[], dKw d⟩ >>= _) _ _ s
  refine wpAny_bind (wpAny_of_eq (show Builtin.Builtins.bindParams "max" ["key", "default"] 0 ⟨[], dKw d⟩ = pure [none, some d] from rfl) ?_)
  refine wpAny_bind (wpAny_pure ?_)
  refine wpAny_bind (iter_intList hl fun s2 e2 st fresh nl => ?_)
  subst e2
  refine wpAny_bind (wpAny_newObj_type ?_)
  rw [nm]
  have nS : (s.heap.push { cls := .type "list_iterator", data := .fields #[.ref l, .int 0 0] }).objs.size ∉ [s.heap.objs.size, l] := fun hm => Nat.lt_irrefl _ (fresh _ hm)
  have W := Walks.list (prog := prog) (w := w) (A := A.in1) hh s.heap.objs.size l nl (intItems xs)
  have sz : (intItems xs).size = xs.size := by simp [intItems]
  have old : ∀ (h' : Heap), (∀ b o, b ∉ [s.heap.objs.size] → b ≠ (s.heap.push { cls := .type "list_iterator", data := .fields #[.ref l, .int 0 0] }).objs.size → ((s.heap.push { cls := .type "list_iterator", data := .fields #[.ref l, .int 0 0] }).push (seqObj "list" #[] 0)).get? b = some o → h'.get? b = some o) →
      ∀ b o, s.heap.get? b = some o → h'.get? b = some o := fun h' hk => old_kept fun b o nb e => hk b o nb (Nat.ne_of_lt (Heap.lt_size e)) (Heap.get?_push_of_some _ e)
  refine wpAny_pure ⟨plainId_quiet PySem.F.plain_max_loop _, maxD_walk W (fun i j => decide (numAt xs i > numAt xs j)) (CmpOf.ints_gt (numAt xs) (fun _ _ => intItems_at)) nS (W.frame _ _ _ st fun b _ o e => Heap.get?_push_of_some _ e) (Heap.get?_push_size _ rfl) (fun hz h' tk hk => ?_) fun hz v h' tk hP hk => ?_⟩
  · refine h0 ?_ _ _ (old _ hk)
    rw [List.map_eq_nil_iff, Array.toList_eq_nil_iff]
    exact Array.eq_empty_of_size_eq_zero (by omega)
  · rw [sz] at hP
    obtain ⟨t, rfl⟩ := intItems_at hP
    obtain ⟨h1, h2⟩ := argBest_gt (numAt xs) (xs.size - 1)
    refine h h' tk _ t (old _ hk) ?_ fun a ha => ?_
    · rw [numAt_eq]; exact PySem.getD_mem (by rw [List.length_map, Array.length_toList]; omega)
    · obtain ⟨j, hj, rfl⟩ := mem_getD ha
      rw [List.length_map, Array.length_toList] at hj
      rw [← numAt_eq]; exact h2 j (by omega)
end
/-- max(xs, default=d), xs a list of ints -/
def rMaxDf (K : PySem.W.Frag) : List V → List V → Hp → VK → Prop := fun vs zs H Q => ∃ (a : Addr) (ns : List Int) (d : V), vs = [V.ref a] ∧ zs = [d] ∧ SqL K H a (ns.map V.int) ∧ (ns = [] → Q d H) ∧ ∀ m, m ∈ ns → (∀ a, a ∈ ns → a ≤ m) → Q (.int m) H
theorem cr_maxDf {X : Cx} (hc : X.calm = true) : CallRK X (.builtin "max") [Str.ofString "default"] (rMaxDf X.K) := by
  intro pins s σ H vs zs us ws Q I r rz h
  obtain ⟨a, ns, d, rfl, rfl, hs, q0, q⟩ := h
  obtain ⟨its, rv, hl, _⟩ := I.list hs
  obtain rfl := Vals.ref1 r
  obtain ⟨w1, rfl, e1⟩ := vals1 rz
  refine maxD_raw (d := w1) (I.ok.hd hc) hl.isList rv.ints (fun e h' tk hk => ⟨d, H, I.kept hk, e1, q0 e⟩) fun h' tk M t' hk m1 m2 => ⟨.int _, H, I.kept hk, ⟨_, rfl⟩, q _ m1 m2⟩

theorem minD_args (a d : Value) : argsOk "min" ⟨[a], dKw d⟩ := by unfold argsOk; kernel_rfl
section
variable {prog : Program} {w : World} {A : Around} {R : Result → Shared → Prop} {I S : Addr} {d : Value} {fp wr : List Addr} {n : Nat} {P : Nat → Value → Prop} {Sw : Nat → Heap → Prop}
/-- behind the item j: the best of the items up to it is kept -/
theorem minD_on (W : Walks prog w A.in1 I fp wr n P Sw) (bt : Nat → Nat → Bool) (cmp : CmpOf prog w A.in1 .Lt P bt) (nS : S ∉ fp) (k : Nat) :
    ∀ (j : Nat) (s : Shared) (v : Value) (c : Nat), n = j + 1 + k → Sw (j + 1) s.heap → P (argBest bt j) v → s.heap.get? S = some { cls := .type "list", dict := none, data := .seq #[v, v] c, slots := #[] } →
      (∀ x h tk, P (argBest bt (n - 1)) x → (∀ b o, b ∉ wr → b ≠ S → s.heap.get? b = some o → h.get? b = some o) → R (.ok (.ret x)) { s with heap := h, toks := tk }) →
      codeAny (model prog w) A (.builtin "min.loop" ⟨[.ref I, .none, .ref S], dKw d⟩) R s := by
  have wS : S ∉ wr := fun h => nS (W.sub _ h)
  have nm : (toString "min" ++ toString ".loop" : String) = "min.loop" := by decide
  induction k with
  | zero =>
    intro j s v c hn st hv hS hR
    have hj : j + 1 = n := hn.symm
    refine codeAny_builtin PySem.F.entry_min_loop ?_
    rw [Around.under_plainId PySem.F.plain_min_loop _]
    show wpAny _ A.in1 (seqItems? (.ref S) >>= _) _ _ s
    refine wpAny_bind (wpAny_seqItems hS rfl ?_)
    show wpAny _ A.in1 (tryCatch (pyNext (.ref I)) _ >>= _) _ _ s
    refine wpAny_bind (wpAny_tryCatch (W.done s _ _ (hj ▸ st) fun h tk hk => ?_))
    show wpAny _ A.in1 (updateSeq S (fun _ => #[]) >>= _) _ _ _
    refine wpAny_bind (wpAny_updateSeq (hk S _ wS hS) rfl (wpAny_bind (wpAny_letGo (wpAny_pure ?_))))
    exact hR v _ tk (by rw [← hj]; exact hv) fun b o b1 b2 e => (Heap.get?_update_other _ _ (Ne.symm b2)).trans (hk b o b1 e)
  | succ k ih =>
    intro j s v c hn st hv hS hR
    refine codeAny_builtin PySem.F.entry_min_loop ?_
    rw [Around.under_plainId PySem.F.plain_min_loop _]
    show wpAny _ A.in1 (seqItems? (.ref S) >>= _) _ _ s
    refine wpAny_bind (wpAny_seqItems hS rfl ?_)
    show wpAny _ A.in1 (tryCatch (pyNext (.ref I)) _ >>= _) _ _ s
    refine wpAny_bind (wpAny_tryCatch (W.item (j + 1) s _ _ (by omega) st fun x h tk hx st2 hk => ?_))
    have hS2 := hk S _ wS hS
    show wpAny _ A.in1 (tryCatch (holding [x, x] (richCompare .Lt x v >>= _)) _ >>= _) _ _ _
    refine wpAny_bind (wpAny_tryCatch (wpAny_holding (wpAny_bind (cmp (j + 1) (argBest bt j) x v _ _ _ hx hv ?_))))
    refine wpAny_bind (wpAny_holding (wpAny_truthy_bool (wpAny_bind (wpAny_letGo (wpAny_pure ?_)))))
    cases hb : bt (j + 1) (argBest bt j) with
    | true =>
      simp only [if_true]
      refine wpAny_bind (wpAny_updateSeq hS2 rfl (wpAny_bind (wpAny_letGo ?_)))
      rw [nm]
      refine wpAny_pure ⟨plainId_quiet PySem.F.plain_min_loop _, ih (j + 1) _ x _ (by omega) (W.frame _ _ _ st2 fun b b1 o e => ?_) (by simp only [argBest, hb, if_true]; exact hx) (Heap.get?_update_self _ hS2 rfl) fun y h2 tk2 hy hk2 => ?_⟩
      · exact (Heap.get?_update_other _ _ (fun q : S = b => nS (by rw [q]; exact b1))).trans e
      · exact hR y h2 tk2 hy fun b o b1 b2 e => hk2 b o b1 b2 ((Heap.get?_update_other _ _ (Ne.symm b2)).trans (hk b o b1 e))
    | false =>
      simp only [Bool.false_eq_true, if_false]
      refine wpAny_bind (wpAny_letGo ?_)
      rw [nm]
      exact wpAny_pure ⟨plainId_quiet PySem.F.plain_min_loop _, ih (j + 1) _ v c (by omega) st2 (by simp only [argBest, hb, Bool.false_eq_true, if_false]; exact hv) hS2 fun y h2 tk2 hy hk2 =>
        hR y h2 tk2 hy fun b o b1 b2 e => hk2 b o b1 b2 (hk b o b1 e)⟩
/-- the whole walk: the default where there is no item -/
theorem minD_walk (W : Walks prog w A.in1 I fp wr n P Sw) (bt : Nat → Nat → Bool) (cmp : CmpOf prog w A.in1 .Lt P bt) (nS : S ∉ fp) {s : Shared} {c : Nat} (st : Sw 0 s.heap)
    (hS : s.heap.get? S = some { cls := .type "list", dict := none, data := .seq #[] c, slots := #[] })
    (h0 : n = 0 → ∀ h tk, (∀ b o, b ∉ wr → b ≠ S → s.heap.get? b = some o → h.get? b = some o) → R (.ok (.ret d)) { s with heap := h, toks := tk })
    (hR : 0 < n → ∀ x h tk, P (argBest bt (n - 1)) x → (∀ b o, b ∉ wr → b ≠ S → s.heap.get? b = some o → h.get? b = some o) → R (.ok (.ret x)) { s with heap := h, toks := tk }) :
    codeAny (model prog w) A (.builtin "min.loop" ⟨[.ref I, .none, .ref S], dKw d⟩) R s := by
  have wS : S ∉ wr := fun h => nS (W.sub _ h)
  have nm : (toString "min" ++ toString ".loop" : String) = "min.loop" := by decide
  refine codeAny_builtin PySem.F.entry_min_loop ?_
  rw [Around.under_plainId PySem.F.plain_min_loop _]
  show wpAny _ A.in1 (seqItems? (.ref S) >>= _) _ _ s
  refine wpAny_bind (wpAny_seqItems hS rfl ?_)
  show wpAny _ A.in1 (tryCatch (pyNext (.ref I)) _ >>= _) _ _ s
  by_cases hn : n = 0
  · refine wpAny_bind (wpAny_tryCatch (W.done s _ _ (hn ▸ st) fun h tk hk => ?_))
    show wpAny _ A.in1 (rule _ >>= _) _ _ _
    refine wpAny_bind (wpAny_rule (wpAny_pure ?_))
    exact h0 hn _ tk fun b o b1 _ e => hk b o b1 e
  · refine wpAny_bind (wpAny_tryCatch (W.item 0 s _ _ (by omega) st fun x h tk hx st2 hk => ?_))
    have hS2 := hk S _ wS hS
    show wpAny _ A.in1 (updateSeq S (fun _ => #[x, x]) >>= _) _ _ _
    refine wpAny_bind (wpAny_updateSeq hS2 rfl ?_)
    rw [nm]
    refine wpAny_pure ⟨plainId_quiet PySem.F.plain_min_loop _, minD_on W bt cmp nS (n - 1) 0 _ x _ (by omega) (W.frame _ _ _ st2 fun b b1 o e => ?_) hx (Heap.get?_update_self _ hS2 rfl) fun y h2 tk2 hy hk2 => ?_⟩
    · exact (Heap.get?_update_other _ _ (fun q : S = b => nS (by rw [q]; exact b1))).trans e
    · exact hR (by omega) y h2 tk2 hy fun b o b1 b2 e => hk2 b o b1 b2 ((Heap.get?_update_other _ _ (Ne.symm b2)).trans (hk b o b1 e))
end
section
variable {prog : Program} {w : World} {A : Around} {E : Value → Shared → Prop} {s : Shared} {l : Addr} {its : List Value} {ns : List Int} {Q : Value → Shared → Prop} {d : Value}
theorem minD_raw (hh : A.handled = none) (hl : s.heap.IsList l its.toArray) (hi : IntsAre its ns)
    (h0 : ns = [] → ∀ h tk, (∀ b o, s.heap.get? b = some o → h.get? b = some o) → Q d { s with heap := h, toks := tk })
    (h : ∀ h' tk M t', (∀ b o, s.heap.get? b = some o → h'.get? b = some o) → M ∈ ns → (∀ a, a ∈ ns → M ≤ a) → Q (.int M t') { s with heap := h', toks := tk }) :
    wpAny (model prog w) A (call (.builtin "min") [.ref l] (dKw d)) Q E s := by
  obtain ⟨xs, e⟩ := hi.allInts.items
  have hn : numsOf (intItems xs).toList = ns := by rw [← e]; exact hi.numsOf
  rw [nums_intItems] at hn
  subst hn
  rw [e] at hl
  have nm : (toString "min" ++ toString ".loop" : String) = "min.loop" := by decide
  refine PyProof.Rows.kmk_tree PySem.F.kind_min PySem.F.plain_min PySem.F.entry_min (minD_args _ _) ?_
  show wpAny _ A.in1 (Builtin.Builtins.bindParams "min" ["key", "default"] 0 ⟨[], dKw d⟩ >>= _) _ _ s
  refine wpAny_bind (wpAny_of_eq (show Builtin.Builtins.bindParams "min" ["key", "default"] 0 ⟨[], dKw d⟩ = pure [none, some d] from rfl) ?_)
  refine wpAny_bind (wpAny_pure ?_)
  refine wpAny_bind (iter_intList hl fun s2 e2 st fresh nl => ?_)
  subst e2
  refine wpAny_bind (wpAny_newObj_type ?_)
  rw [nm]
  have nS : (s.heap.push { cls := .type "list_iterator", data := .fields #[.ref l, .int 0 0] }).objs.size ∉ [s.heap.objs.size, l] := fun hm => Nat.lt_irrefl _ (fresh _ hm)
  have W := Walks.list (prog := prog) (w := w) (A := A.in1) hh s.heap.objs.size l nl (intItems xs)
  have sz : (intItems xs).size = xs.size := by simp [intItems]
  have old : ∀ (h' : Heap), (∀ b o, b ∉ [s.heap.objs.size] → b ≠ (s.heap.push { cls := .type "list_iterator", data := .fields #[.ref l, .int 0 0] }).objs.size → ((s.heap.push { cls := .type "list_iterator", data := .fields #[.ref l, .int 0 0] }).push (seqObj "list" #[] 0)).get? b = some o → h'.get? b = some o) →
      ∀ b o, s.heap.get? b = some o → h'.get? b = some o := fun h' hk => old_kept fun b o nb e => hk b o nb (Nat.ne_of_lt (Heap.lt_size e)) (Heap.get?_push_of_some _ e)
  refine wpAny_pure ⟨plainId_quiet PySem.F.plain_min_loop _, minD_walk W (fun i j => decide (numAt xs i < numAt xs j)) (CmpOf.ints_lt (numAt xs) (fun _ _ => intItems_at)) nS (W.frame _ _ _ st fun b _ o e => Heap.get?_push_of_some _ e) (Heap.get?_push_size _ rfl) (fun hz h' tk hk => ?_) fun hz v h' tk hP hk => ?_⟩
  · refine h0 ?_ _ _ (old _ hk)
    rw [List.map_eq_nil_iff, Array.toList_eq_nil_iff]
    exact Array.eq_empty_of_size_eq_zero (by omega)
  · rw [sz] at hP
    obtain ⟨t, rfl⟩ := intItems_at hP
    obtain ⟨h1, h2⟩ := argBest_lt (numAt xs) (xs.size - 1)
    refine h h' tk _ t (old _ hk) ?_ fun a ha => ?_
    · rw [numAt_eq]; exact PySem.getD_mem (by rw [List.length_map, Array.length_toList]; omega)
    · obtain ⟨j, hj, rfl⟩ := mem_getD ha
      rw [List.length_map, Array.length_toList] at hj
      rw [← numAt_eq]; exact h2 j (by omega)
end
/-- min(xs, default=d), xs a list of ints -/
def rMinDf (K : PySem.W.Frag) : List V → List V → Hp → VK → Prop := fun vs zs H Q => ∃ (a : Addr) (ns : List Int) (d : V), vs = [V.ref a] ∧ zs = [d] ∧ SqL K H a (ns.map V.int) ∧ (ns = [] → Q d H) ∧ ∀ m, m ∈ ns → (∀ a, a ∈ ns → m ≤ a) → Q (.int m) H
theorem cr_minDf {X : Cx} (hc : X.calm = true) : CallRK X (.builtin "min") [Str.ofString "default"] (rMinDf X.K) := by
  intro pins s σ H vs zs us ws Q I r rz h
  obtain ⟨a, ns, d, rfl, rfl, hs, q0, q⟩ := h
  obtain ⟨its, rv, hl, _⟩ := I.list hs
  obtain rfl := Vals.ref1 r
  obtain ⟨w1, rfl, e1⟩ := vals1 rz
  refine minD_raw (d := w1) (I.ok.hd hc) hl.isList rv.ints (fun e h' tk hk => ⟨d, H, I.kept hk, e1, q0 e⟩) fun h' tk M t' hk m1 m2 => ⟨.int _, H, I.kept hk, ⟨_, rfl⟩, q _ m1 m2⟩
end L2
/-! bool(x) of an instance of an own class with __bool__ -/
namespace L2.My
open PySem PySem.Spec PyProof.Rows
section
variable {prog : Program} {w : World} {A : Around} {E : Value → Shared → Prop} {s : Shared} {K : PySem.W.Frag} {x C f : Addr} {ox : Obj} {odd : Option Obj}
theorem truthy_inst {Q : Bool → Shared → Prop} (X : K.In s.heap) (I : PySem.W.InstAt s.heap x ox C odd) (hs : PySem.W.findIn K (.ref C) "__bool__" = some (some (.ref f))) (hf : PySem.W.isFn K (.ref f) = true)
    (h : wpAny (model prog w) A (call (.ref f) [.ref x]) (fun r s₁ => ∃ b, r = Value.bool b ∧ Q b s₁) E s) : wpAny (model prog w) A (truthy (.ref x)) Q E s := by
  unfold truthy
  first
    | (refine wpAny_bind (m := callSpecial? (.ref x) (Str.ofString "__bool__")) (PySem.W.special_fn X I hs (beq_iff_eq.mp hf) (wpAny_mono h (fun r s' hr => ?_) fun _ _ y => y)))
    | (refine wpAny_bind (wpAny_pure ?_); refine wpAny_bind (m := callSpecial? (.ref x) (Str.ofString "__bool__")) (PySem.W.special_fn X I hs (beq_iff_eq.mp hf) (wpAny_mono h (fun r s' hr => ?_) fun _ _ y => y)))
  obtain ⟨b, rfl, hq⟩ := hr
  exact wpAny_pure hq
theorem bool_own {Q : Value → Shared → Prop} (X : K.In s.heap) (I : PySem.W.InstAt s.heap x ox C odd) (hs : PySem.W.findIn K (.ref C) "__bool__" = some (some (.ref f))) (hf : PySem.W.isFn K (.ref f) = true)
    (h : wpAny (model prog w) A.in1.in1 (call (.ref f) [.ref x]) (fun r s₁ => ∃ b, r = Value.bool b ∧ Q r s₁) E s) : wpAny (model prog w) A (call (.type "bool") [.ref x]) Q E s := by
  refine callType_codes (T := "bool") (Bi := Builtin.«object.__init__») (Q₁ := fun r s₁ => ∃ b, r = Value.bool b ∧ Q r s₁) PySem.F.called_bool (PySem.F.typeCall_bool_1 _) PySem.F.entry_object_init ?_ ?_
  · refine codeAny_of_tree ?_
    show wpAny _ A.in1.in1 (do checkBuiltinCall "bool.__new__" ⟨[.type "bool", .ref x], []⟩; again (.builtin "bool.__new__" ⟨[.type "bool", .ref x], []⟩)) _ _ s
    refine wpAny_bind (wpAny_of_eq (PySem.F.newCall_bool_1 _) (wpAny_pure ⟨plainId_quiet (by decide +kernel) _, codeAny_builtin PySem.F.entry_bool_new ?_⟩))
    rw [Around.under_plainId (by decide +kernel) _]
    have f1 := PySem.F.conv_sub_bool
    have tr : ∀ {Q' : Bool → Shared → Prop} {E' : Value → Shared → Prop}, wpAny (model prog w) A.in1.in1 (call (.ref f) [.ref x]) (fun r s₁ => ∃ b, r = Value.bool b ∧ Q' b s₁) E' s → wpAny (model prog w) A.in1.in1 (truthy (.ref x)) Q' E' s := fun h' => truthy_inst X I hs hf h'
    repeat (any_goals (first | assumption | (with_reducible refine tr (wpAny_mono h (fun r s1 hr => ?_) (fun e s1 he => ?_))) | wp_step))
    all_goals
      obtain ⟨b, rfl, hq⟩ := hr
      exact ⟨b, rfl, wpAny_pure ⟨b, rfl, hq⟩⟩
  · rintro obj s₁ ⟨b, rfl, hq⟩
    exact ⟨PySem.typeIs_bool _ _, PySem.F.args_object_init_2 _ _, object_init_meets PySem.F.called_bool.init.lookup PySem.F.called_bool.made (by decide) prog w A.in1 _ s₁ ⟨PySem.typeIs_bool _ _, rfl, hq⟩⟩
/-- bool(x) of an instance -/
def rBoolOwn (C : Addr) (sp : Sp) (E : XK) : List V → Hp → VK → Prop := fun xs H Q => ∃ a dx fs, xs = [V.ref a] ∧ H a = some (.ins C dx fs) ∧ sp [.ref a] H (fun z H' => ∃ b, z = .bl b ∧ Q z H') E
theorem call_boolOwn {X : Cx} {CX : CXT} {n : Nat} {C g : Addr} {fd : FuncData} {ps : List Str} {sp : Sp} {E : XK} (hs : PySem.W.findIn X.K (.ref C) "__bool__" = some (some (.ref g))) (hf : PySem.W.isFn X.K (.ref g) = true) (F : FnOk X.prog X.w X.K X.mg X.base CX n g fd ps sp) (bd : Binds X.K fd ps []) (hl : ps.length = 1)
    (hr : Room (n + 2) X.A) (hx : Passes CX X E) : CallR X (.type "bool") (rBoolOwn C sp E) := by
  intro pins s σ H xs us Q I r h
  obtain ⟨a, dx, fs, rfl, ea, q⟩ := h
  obtain ⟨u, rfl, ru⟩ := vals1 r
  cases (show u = Value.ref a from ru)
  obtain ⟨mA, O, _, _, _, _⟩ := ins_get I.hok ea
  obtain ⟨od, J, _⟩ := O.look
  have hr2 : Room n X.A.in1.in1 := (show Room (n + 1) X.A.in1 from Room.in1 hr).in1
  refine bool_own I.kIn J hs hf (wpAny_mono (wpAny_call (codeAny_mono (F.run X.A.in1.in1 X.stack s H ⟨[.ref a], []⟩ [.ref a] [.ref a] _ E hr2 I.env0.in1.in1 (bd s [.ref a] I.kIn (by simp [hl])) (.cons rfl .nil) q) fun r s' hq => ?_)) (fun w s' z => z) fun _ _ x => x)
  cases r with
  | error e => exact hx pins σ H s e s' I hq
  | ok fl =>
    cases fl with
    | ret u =>
      obtain ⟨z, H', I', rz, b, ez, qz⟩ := I.after hq
      subst ez
      cases rz
      exact ⟨b, rfl, .bl b, H', I', rfl, qz⟩
    | next => exact False.elim hq
    | brk => exact False.elim hq
    | cont => exact False.elim hq
end
end L2.My
namespace Met
/-! ### the pure numbers of meetings: the greatest divisor with its two factors -/
structure Tri where
  g : Int
  x : Int
  y : Int
def stepD (o n : Tri) : Tri := ⟨o.g - o.g.fdiv n.g * n.g, o.x - o.g.fdiv n.g * n.x, o.y - o.g.fdiv n.g * n.y⟩
def divL : Nat → Tri → Tri → Tri
  | 0, o, _ => o
  | f + 1, o, n => if n.g = 0 then o else divL f n (stepD o n)
def posT (o : Tri) : Tri := if 0 < o.g then o else ⟨-o.g, -o.x, -o.y⟩
def divOf (a b : Int) : Tri := posT (divL (b.natAbs + 1) ⟨a, 1, 0⟩ ⟨b, 0, 1⟩)
theorem step_g (o n : Tri) : (stepD o n).g = o.g.fmod n.g := by
  show o.g - o.g.fdiv n.g * n.g = _
  rw [Int.fmod_def, Int.mul_comm]
theorem fmod_sign {a b : Int} (h : b ≠ 0) : (0 < b → 0 ≤ a.fmod b ∧ a.fmod b < b) ∧ (b < 0 → b < a.fmod b ∧ a.fmod b ≤ 0) := by
  refine ⟨fun p => ⟨Int.fmod_nonneg_of_pos a p, Int.fmod_lt_of_pos a p⟩, fun p => ?_⟩
  have e := Int.neg_fmod_neg (-a) (-b)
  rw [Int.neg_neg, Int.neg_neg] at e
  have q : 0 < -b := by omega
  have q1 := Int.fmod_nonneg_of_pos (-a) q
  have q2 := Int.fmod_lt_of_pos (-a) q
  omega
theorem fmod_less {a b : Int} (h : b ≠ 0) : (a.fmod b).natAbs < b.natAbs := by
  obtain ⟨h1, h2⟩ := fmod_sign (a := a) h
  rcases Int.lt_or_lt_of_ne h with p | p
  · have := h2 p
    omega
  · have := h1 p
    omega
theorem fdiv_split (a b : Int) : a = a.fdiv b * b + a.fmod b := by
  have := Int.mul_fdiv_add_fmod a b
  rw [Int.mul_comm]
  omega
/-- what holds at each turn: the two numbers are told by their factors, and have no other common divisors than the first two -/
structure Turn (a b : Int) (o n : Tri) : Prop where
  eo : o.g = a * o.x + b * o.y
  en : n.g = a * n.x + b * n.y
  dv : ∀ d, d ∣ o.g → d ∣ n.g → d ∣ a ∧ d ∣ b
  nz : o.g ≠ 0 ∨ n.g ≠ 0
theorem Turn.start {a b : Int} (h : a ≠ 0 ∨ b ≠ 0) : Turn a b ⟨a, 1, 0⟩ ⟨b, 0, 1⟩ := by
  refine ⟨?_, ?_, fun d h1 h2 => ⟨h1, h2⟩, h⟩
  · show a = a * 1 + b * 0
    omega
  · show b = a * 0 + b * 1
    omega
theorem Turn.step {a b : Int} {o n : Tri} (t : Turn a b o n) (h : n.g ≠ 0) : Turn a b n (stepD o n) := by
  obtain ⟨eo, en, dv, nz⟩ := t
  refine ⟨en, ?_, fun d h1 h2 => ?_, .inl h⟩
  · show o.g - o.g.fdiv n.g * n.g = a * (o.x - o.g.fdiv n.g * n.x) + b * (o.y - o.g.fdiv n.g * n.y)
    generalize o.g.fdiv n.g = q
    rw [eo, en]
    grind
  · refine dv d ?_ h1
    have e : o.g = o.g.fdiv n.g * n.g + (stepD o n).g := by
      rw [step_g]
      exact fdiv_split _ _
    rw [e]
    exact Int.dvd_add (Int.dvd_trans h1 (Int.dvd_mul_left _ _)) h2
theorem divL_turn {a b : Int} : ∀ (f : Nat) (o n : Tri), Turn a b o n → n.g.natAbs < f → ∃ m, Turn a b (divL f o n) m ∧ m.g = 0 := by
  intro f
  induction f with
  | zero =>
    intro o n _ h
    omega
  | succ f ih =>
    intro o n t h
    by_cases c : n.g = 0
    · refine ⟨n, ?_, c⟩
      show Turn a b (if n.g = 0 then o else _) n
      rw [if_pos c]
      exact t
    · have q := ih n (stepD o n) (t.step c) (by rw [step_g]; have := fmod_less (a := o.g) c; omega)
      show ∃ m, Turn a b (if n.g = 0 then o else divL f n (stepD o n)) m ∧ m.g = 0
      rw [if_neg c]
      exact q
/-- the divisor: above 0, told by its factors, a divisor of both -/
structure Dvd (a b : Int) (t : Tri) : Prop where
  pos : 0 < t.g
  eq : a * t.x + b * t.y = t.g
  da : t.g ∣ a
  db : t.g ∣ b
theorem divOf_ok {a b : Int} (h : a ≠ 0 ∨ b ≠ 0) : Dvd a b (divOf a b) := by
  obtain ⟨m, t, z⟩ := divL_turn (b.natAbs + 1) ⟨a, 1, 0⟩ ⟨b, 0, 1⟩ (Turn.start h) (Nat.lt_succ_self _)
  unfold divOf posT
  generalize divL (b.natAbs + 1) ⟨a, 1, 0⟩ ⟨b, 0, 1⟩ = o at t ⊢
  obtain ⟨eo, _, dv, nz⟩ := t
  have d0 := dv o.g ⟨1, by omega⟩ (by rw [z]; exact ⟨0, by omega⟩)
  have no : o.g ≠ 0 := by
    rcases nz with q | q
    · exact q
    · exact absurd z q
  by_cases c : 0 < o.g
  · rw [if_pos c]
    exact ⟨c, eo.symm, d0.1, d0.2⟩
  · rw [if_neg c]
    refine ⟨by show 0 < -o.g; omega, ?_, Int.neg_dvd.mpr d0.1, Int.neg_dvd.mpr d0.2⟩
    show a * -o.x + b * -o.y = -o.g
    rw [eo]
    grind
/-! sizes: the factors are no greater than the numbers -/
structure Small (C : Nat) (o n : Tri) : Prop where
  sg : 0 ≤ o.g * n.g
  sx : n.g.natAbs * o.x.natAbs + o.g.natAbs * n.x.natAbs ≤ C
  sy : n.g.natAbs * o.y.natAbs + o.g.natAbs * n.y.natAbs ≤ C
theorem part_le {r0 r1 q r2 x0 x1 : Int} (C : Nat) (e : r0.natAbs = q.natAbs * r1.natAbs + r2.natAbs) (h : r1.natAbs * x0.natAbs + r0.natAbs * x1.natAbs ≤ C) :
    r2.natAbs * x1.natAbs + r1.natAbs * (x0 - q * x1).natAbs ≤ C := by
  have t : (x0 - q * x1).natAbs ≤ x0.natAbs + q.natAbs * x1.natAbs := by
    rw [← Int.natAbs_mul]
    omega
  have t2 := Nat.mul_le_mul_left r1.natAbs t
  have e2 : r1.natAbs * (x0.natAbs + q.natAbs * x1.natAbs) + r2.natAbs * x1.natAbs = r1.natAbs * x0.natAbs + r0.natAbs * x1.natAbs := by
    rw [e]
    grind
  omega
theorem quot_abs {a b : Int} (h : b ≠ 0) (s : 0 ≤ a * b) : a.natAbs = (a.fdiv b).natAbs * b.natAbs + (a.fmod b).natAbs ∧ 0 ≤ b * a.fmod b := by
  have e := fdiv_split a b
  obtain ⟨h1, h2⟩ := fmod_sign (a := a) h
  rw [← Int.natAbs_mul]
  generalize hq : a.fdiv b = q at e ⊢
  generalize hr : a.fmod b = r at e h1 h2 ⊢
  rcases Int.lt_or_lt_of_ne h with p | p
  · obtain ⟨r1, r2⟩ := h2 p
    have a0 : a ≤ 0 := by
      by_cases c : 0 < a
      · have := Int.mul_neg_of_pos_of_neg c p
        omega
      · omega
    have qb : q * b ≤ 0 := by
      by_cases c : q < 0
      · have u : b * (q + 1) ≥ 0 := Int.mul_nonneg_of_nonpos_of_nonpos (by omega) (by omega)
        have u2 : b * (q + 1) = q * b + b := by grind
        omega
      · exact Int.mul_nonpos_of_nonneg_of_nonpos (by omega) (by omega)
    exact ⟨by omega, Int.mul_nonneg_of_nonpos_of_nonpos (by omega) r2⟩
  · obtain ⟨r1, r2⟩ := h1 p
    have a0 : 0 ≤ a := by
      by_cases c : a < 0
      · have := Int.mul_neg_of_neg_of_pos c p
        omega
      · omega
    have qb : 0 ≤ q * b := by
      by_cases c : q < 0
      · have u : (q + 1) * b ≤ 0 := Int.mul_nonpos_of_nonpos_of_nonneg (by omega) (by omega)
        have u2 : (q + 1) * b = q * b + b := by grind
        omega
      · exact Int.mul_nonneg (by omega) (by omega)
    exact ⟨by omega, Int.mul_nonneg (by omega) r1⟩
theorem Small.step {C : Nat} {o n : Tri} (s : Small C o n) (h : n.g ≠ 0) : Small C n (stepD o n) := by
  obtain ⟨q1, q2⟩ := quot_abs h s.sg
  refine ⟨by rw [step_g]; exact q2, ?_, ?_⟩
  · rw [step_g]
    exact part_le C q1 s.sx
  · rw [step_g]
    exact part_le C q1 s.sy
/-- whatever the signs are: behind the first turn the sizes are kept -/
theorem Small.first {a b : Int} (h : b ≠ 0) : Small (a.natAbs + 2 * b.natAbs) ⟨b, 0, 1⟩ (stepD ⟨a, 1, 0⟩ ⟨b, 0, 1⟩) := by
  have e := fdiv_split a b
  obtain ⟨h1, h2⟩ := fmod_sign (a := a) h
  have l := fmod_less (a := a) h
  have g := step_g ⟨a, 1, 0⟩ ⟨b, 0, 1⟩
  have sg : 0 ≤ b * a.fmod b := by
    rcases Int.lt_or_lt_of_ne h with p | p
    · exact Int.mul_nonneg_of_nonpos_of_nonpos (by omega) (h2 p).2
    · exact Int.mul_nonneg (by omega) (h1 p).1
  have m : (a.fdiv b).natAbs * b.natAbs ≤ a.natAbs + b.natAbs := by
    rw [← Int.natAbs_mul]
    omega
  refine ⟨by rw [g]; exact sg, ?_, ?_⟩
  · rw [g]
    show (a.fmod b).natAbs * (0 : Int).natAbs + b.natAbs * (1 - a.fdiv b * 0 : Int).natAbs ≤ _
    rw [Int.mul_zero]
    show (a.fmod b).natAbs * 0 + b.natAbs * 1 ≤ _
    omega
  · rw [g]
    show (a.fmod b).natAbs * (1 : Int).natAbs + b.natAbs * (0 - a.fdiv b * 1 : Int).natAbs ≤ _
    rw [Int.mul_one]
    have z : (0 - a.fdiv b).natAbs = (a.fdiv b).natAbs := by omega
    rw [z, Nat.mul_comm b.natAbs]
    show (a.fmod b).natAbs * 1 + _ ≤ _
    omega
end Met
namespace Met
/-! ### sizes at each turn of the divisor's loop -/
structure Lim (C : Nat) (t : Tri) : Prop where
  g : t.g.natAbs ≤ C
  x : t.x.natAbs ≤ C
  y : t.y.natAbs ≤ C
inductive J (a b : Int) : Tri → Tri → Prop
  | start : J a b ⟨a, 1, 0⟩ ⟨b, 0, 1⟩
  | on {o n : Tri} (no : o.g ≠ 0) (s : Small (a.natAbs + 2 * b.natAbs + 1) o n) (lo : Lim (a.natAbs + 2 * b.natAbs + 1) o) (ln : n.g.natAbs ≤ a.natAbs + 2 * b.natAbs + 1) : J a b o n
theorem le_of_mul {u v w C : Nat} (hu : u ≠ 0) (h : w + u * v ≤ C) : v ≤ C := by
  have : 1 * v ≤ u * v := Nat.mul_le_mul_right v (Nat.pos_of_ne_zero hu)
  omega
theorem J.lim {a b : Int} {o n : Tri} (j : J a b o n) : Lim (a.natAbs + 2 * b.natAbs + 1) o ∧ Lim (a.natAbs + 2 * b.natAbs + 1) n := by
  cases j with
  | start => exact ⟨⟨by show a.natAbs ≤ _; omega, by show 1 ≤ _; omega, Nat.zero_le _⟩, ⟨by show b.natAbs ≤ _; omega, Nat.zero_le _, by show 1 ≤ _; omega⟩⟩
  | on no s lo ln =>
    have z : o.g.natAbs ≠ 0 := by omega
    exact ⟨lo, ln, le_of_mul z s.sx, le_of_mul z s.sy⟩
theorem Small.more {C D : Nat} {o n : Tri} (s : Small C o n) (h : C ≤ D) : Small D o n := ⟨s.sg, Nat.le_trans s.sx h, Nat.le_trans s.sy h⟩
theorem J.step {a b : Int} {o n : Tri} (j : J a b o n) (h : n.g ≠ 0) : J a b n (stepD o n) := by
  obtain ⟨lo, ln⟩ := j.lim
  have l := fmod_less (a := o.g) h
  have lg := ln.g
  refine .on h ?_ ln (by rw [step_g]; omega)
  cases j with
  | start => exact (Small.first h).more (Nat.le_succ _)
  | on no s lo ln => exact s.step h
theorem J.divL {a b : Int} : ∀ (f : Nat) (o n : Tri), J a b o n → Lim (a.natAbs + 2 * b.natAbs + 1) (divL f o n) := by
  intro f
  induction f with
  | zero => exact fun o n j => j.lim.1
  | succ f ih =>
    intro o n j
    show Lim _ (if n.g = 0 then o else Met.divL f n (stepD o n))
    by_cases c : n.g = 0
    · rw [if_pos c]
      exact j.lim.1
    · rw [if_neg c]
      exact ih _ _ (j.step c)
theorem posT_lim {C : Nat} {t : Tri} (l : Lim C t) : Lim C (posT t) := by
  unfold posT
  by_cases c : 0 < t.g
  · rw [if_pos c]
    exact l
  · rw [if_neg c]
    obtain ⟨h1, h2, h3⟩ := l
    exact ⟨by show (-t.g).natAbs ≤ C; omega, by show (-t.x).natAbs ≤ C; omega, by show (-t.y).natAbs ≤ C; omega⟩
theorem divOf_lim (a b : Int) : Lim (a.natAbs + 2 * b.natAbs + 1) (divOf a b) := posT_lim (J.divL _ _ _ .start)
/-- the loop's turn, by its room -/
theorem divL_next {f : Nat} {o n : Tri} (c : n.g ≠ 0) : divL (f + 1) o n = divL f n (stepD o n) := by
  show (if n.g = 0 then o else _) = _
  rw [if_neg c]
theorem divL_end {f : Nat} {o n : Tri} (c : n.g = 0) : divL f o n = o := by
  cases f with
  | zero => rfl
  | succ f =>
    show (if n.g = 0 then o else _) = _
    rw [if_pos c]
theorem divL_room : ∀ (f g : Nat) (o n : Tri), n.g.natAbs < f → n.g.natAbs < g → divL f o n = divL g o n := by
  intro f
  induction f with
  | zero =>
    intro g o n h _
    omega
  | succ f ih =>
    intro g o n hf hg
    by_cases c : n.g = 0
    · rw [divL_end c, divL_end c]
    · cases g with
      | zero => omega
      | succ g =>
        rw [divL_next c, divL_next c]
        have l := fmod_less (a := o.g) c
        exact ih g n _ (by rw [step_g]; omega) (by rw [step_g]; omega)
/-! ### the line of two places -/
abbrev Pr := Int × Int
structure Line where
  base : Pr
  step : Pr
def lineOf (p q : Pr) : Option Line :=
  let d := divOf p.1 q.1
  if (q.2 - p.2) % d.g ≠ 0 then none else some ⟨(d.x * ((q.2 - p.2) / d.g), -d.y * ((q.2 - p.2) / d.g)), (q.1 / d.g, p.1 / d.g)⟩
def after (p s : Pr) (k : Int) : Pr := (p.1 + s.1 * k, p.2 + s.2 * k)
/-- two places meet in a pair of rounds -/
def Meet (p q : Pr) (e : Pr) : Prop := p.1 * e.1 + p.2 = q.1 * e.2 + q.2
theorem line_none {p q : Pr} (h : p.1 ≠ 0 ∨ q.1 ≠ 0) (n : lineOf p q = none) (e : Pr) : ¬ Meet p q e := by
  have D := divOf_ok h
  unfold lineOf at n
  generalize hd : divOf p.1 q.1 = d at D n
  by_cases c : (q.2 - p.2) % d.g ≠ 0
  · intro m
    apply c
    have dv : d.g ∣ q.2 - p.2 := by
      have e1 : q.2 - p.2 = p.1 * e.1 - q.1 * e.2 := by
        unfold Meet at m
        omega
      rw [e1]
      exact Int.dvd_sub (Int.dvd_mul_of_dvd_left D.da) (Int.dvd_mul_of_dvd_left D.db)
    exact Int.emod_eq_zero_of_dvd dv
  · rw [if_neg c] at n
    cases n
/-- the pairs of the line are the pairs in which the places meet -/
theorem line_some {p q : Pr} (h : p.1 ≠ 0 ∨ q.1 ≠ 0) {l : Line} (n : lineOf p q = some l) : (∀ e : Pr, Meet p q e ↔ ∃ k, e = after l.base l.step k) ∧ (l.step.1 ≠ 0 ∨ l.step.2 ≠ 0) := by
  have D := divOf_ok h
  unfold lineOf at n
  generalize hd : divOf p.1 q.1 = d at D n
  obtain ⟨pos, eq, ⟨u, hu⟩, ⟨v, hv⟩⟩ := D
  have g0 : d.g ≠ 0 := by omega
  by_cases c : (q.2 - p.2) % d.g ≠ 0
  · rw [if_pos c] at n
    cases n
  · rw [if_neg c] at n
    have n := Option.some.inj n
    subst n
    obtain ⟨t, ht⟩ : d.g ∣ q.2 - p.2 := Int.dvd_of_emod_eq_zero (by omega)
    have e1 : (q.2 - p.2) / d.g = t := by
      rw [ht]
      exact Int.mul_ediv_cancel_left _ g0
    have e2 : q.1 / d.g = v := by
      rw [hv]
      exact Int.mul_ediv_cancel_left _ g0
    have e3 : p.1 / d.g = u := by
      rw [hu]
      exact Int.mul_ediv_cancel_left _ g0
    have one : u * d.x + v * d.y = 1 := by
      have z : d.g * (u * d.x + v * d.y) = d.g * 1 := by
        rw [hu, hv] at eq
        grind
      exact Int.eq_of_mul_eq_mul_left g0 z
    refine ⟨fun e => ?_, ?_⟩
    · show Meet p q e ↔ ∃ k, e = (d.x * ((q.2 - p.2) / d.g) + q.1 / d.g * k, -d.y * ((q.2 - p.2) / d.g) + p.1 / d.g * k)
      rw [e1, e2, e3]
      unfold Meet
      rw [hu, hv]
      constructor
      · intro m
        have m2 : d.g * (u * e.1 - v * e.2) = d.g * t := by
          rw [← ht]
          grind
        have m3 : u * e.1 - v * e.2 = t := Int.eq_of_mul_eq_mul_left g0 m2
        refine ⟨d.x * e.2 + d.y * e.1, Prod.ext ?_ ?_⟩
        · show e.1 = d.x * t + v * (d.x * e.2 + d.y * e.1)
          rw [← m3]
          grind
        · show e.2 = -d.y * t + u * (d.x * e.2 + d.y * e.1)
          rw [← m3]
          grind
      · rintro ⟨k, rfl⟩
        show d.g * u * (d.x * t + v * k) + p.2 = d.g * v * (-d.y * t + u * k) + q.2
        have q2 : q.2 = d.g * t + p.2 := by omega
        rw [q2]
        have w : d.g * t * (u * d.x + v * d.y) = d.g * t := by rw [one, Int.mul_one]
        grind
    · show q.1 / d.g ≠ 0 ∨ p.1 / d.g ≠ 0
      rw [e2, e3]
      rcases h with h | h
      · right
        intro z
        rw [z, Int.mul_zero] at hu
        exact h hu
      · left
        intro z
        rw [z, Int.mul_zero] at hv
        exact h hv
end Met
namespace Met
/-! ### bounds, how far a pair keeps them, the span of the pairs that keep all -/
structure Bd where
  low : Int
  high : Option Int
  first : Int
  rounds : Option Int
def Keeps (b : Bd) (e : Pr) : Prop := b.first ≤ e.1 ∧ b.low ≤ e.2 - e.1 ∧ (∀ h, b.high = some h → e.2 - e.1 ≤ h) ∧ ∀ r, b.rounds = some r → e.2 < r
def slacks (e : Pr) (b : Bd) : List Int :=
  [e.1 - b.first, e.2 - e.1 - b.low] ++ (match b.high with | some h => [h - e.2 + e.1] | none => []) ++ (match b.rounds with | some r => [r - 1 - e.2] | none => [])
theorem slacks_iff (e : Pr) (b : Bd) : (∀ x ∈ slacks e b, 0 ≤ x) ↔ Keeps b e := by
  obtain ⟨low, high, first, rounds⟩ := b
  unfold slacks Keeps
  cases high <;> cases rounds <;> simp <;> omega
/-- the limits of a run of slacks, each with the one of the next pair -/
def limL : List (Int × Int) → List Int → List Int → Option (List Int × List Int)
  | [], s, e => some (s, e)
  | x :: r, s, e =>
    if 0 < x.2 - x.1 then limL r (s ++ [-(x.1 / (x.2 - x.1))]) e
    else if x.2 - x.1 < 0 then limL r s (e ++ [x.1 / -(x.2 - x.1)])
    else if x.1 < 0 then none else limL r s e
def In (x : List Int × List Int) (k : Int) : Prop := (∀ s ∈ x.1, s ≤ k) ∧ ∀ e ∈ x.2, k ≤ e
theorem up_iff {a g k : Int} (h : 0 < g) : 0 ≤ a + g * k ↔ -(a / g) ≤ k := by
  have e := Int.mul_ediv_add_emod a g
  have r0 := Int.emod_nonneg a (by omega : g ≠ 0)
  have r1 := Int.emod_lt_of_pos a h
  generalize a / g = q at e
  generalize a % g = r at e r0 r1
  have z : a + g * k = g * (q + k) + r := by grind
  rw [z]
  constructor
  · intro w
    by_cases c : q + k < 0
    · have u : g * (q + k + 1) ≤ 0 := Int.mul_nonpos_of_nonneg_of_nonpos (by omega) (by omega)
      have u2 : g * (q + k + 1) = g * (q + k) + g := by grind
      omega
    · omega
  · intro w
    have u : 0 ≤ g * (q + k) := Int.mul_nonneg (by omega) (by omega)
    omega
theorem down_iff {a g k : Int} (h : g < 0) : 0 ≤ a + g * k ↔ k ≤ a / -g := by
  have u := up_iff (a := a) (g := -g) (k := -k) (by omega)
  rw [Int.neg_mul_neg] at u
  rw [u]
  omega
/-- a run of slacks, by the number of the pair -/
def Line2 (zs : List (Int × Int)) (k : Int) : Prop := ∀ x ∈ zs, 0 ≤ x.1 + (x.2 - x.1) * k
theorem limL_iff (k : Int) : ∀ (zs : List (Int × Int)) (s e : List Int),
    match limL zs s e with
    | none => ∀ j, ¬ Line2 zs j
    | some x => In x k ↔ In (s, e) k ∧ Line2 zs k := by
  intro zs
  induction zs with
  | nil =>
    intro s e
    show In (s, e) k ↔ In (s, e) k ∧ Line2 [] k
    exact ⟨fun h => ⟨h, fun x m => absurd m List.not_mem_nil⟩, And.left⟩
  | cons x r ih =>
    intro s e
    have more : ∀ j, Line2 (x :: r) j ↔ (0 ≤ x.1 + (x.2 - x.1) * j) ∧ Line2 r j := fun j => by
      unfold Line2
      simp
    by_cases c : 0 < x.2 - x.1
    · have i := ih (s ++ [-(x.1 / (x.2 - x.1))]) e
      have z : limL (x :: r) s e = limL r (s ++ [-(x.1 / (x.2 - x.1))]) e := by
        rw [limL, if_pos c]
      rw [z]
      cases h : limL r (s ++ [-(x.1 / (x.2 - x.1))]) e with
      | none =>
        rw [h] at i
        exact fun j w => i j ((more j).mp w).2
      | some y =>
        rw [h] at i
        show In y k ↔ _
        rw [show In y k ↔ _ from i, more, up_iff c]
        unfold In
        constructor
        · rintro ⟨⟨h1, h2⟩, h3⟩
          exact ⟨⟨fun u m => h1 u (List.mem_append_left _ m), h2⟩, h1 _ (List.mem_append_right _ (List.mem_singleton.mpr rfl)), h3⟩
        · rintro ⟨⟨h1, h2⟩, h4, h3⟩
          refine ⟨⟨fun u m => ?_, h2⟩, h3⟩
          rcases List.mem_append.mp m with m | m
          · exact h1 u m
          · rw [List.mem_singleton.mp m]
            exact h4
    · by_cases c2 : x.2 - x.1 < 0
      · have i := ih s (e ++ [x.1 / -(x.2 - x.1)])
        have z : limL (x :: r) s e = limL r s (e ++ [x.1 / -(x.2 - x.1)]) := by
          rw [limL, if_neg c, if_pos c2]
        rw [z]
        cases h : limL r s (e ++ [x.1 / -(x.2 - x.1)]) with
        | none =>
          rw [h] at i
          exact fun j w => i j ((more j).mp w).2
        | some y =>
          rw [h] at i
          show In y k ↔ _
          rw [show In y k ↔ _ from i, more, down_iff c2]
          unfold In
          constructor
          · rintro ⟨⟨h1, h2⟩, h3⟩
            exact ⟨⟨h1, fun u m => h2 u (List.mem_append_left _ m)⟩, h2 _ (List.mem_append_right _ (List.mem_singleton.mpr rfl)), h3⟩
          · rintro ⟨⟨h1, h2⟩, h4, h3⟩
            refine ⟨⟨h1, fun u m => ?_⟩, h3⟩
            rcases List.mem_append.mp m with m | m
            · exact h2 u m
            · rw [List.mem_singleton.mp m]
              exact h4
      · have g0 : x.2 - x.1 = 0 := by omega
        by_cases c3 : x.1 < 0
        · have z : limL (x :: r) s e = none := by
            rw [limL, if_neg c, if_neg c2, if_pos c3]
          rw [z]
          intro j w
          have := ((more j).mp w).1
          rw [g0, Int.zero_mul] at this
          omega
        · have z : limL (x :: r) s e = limL r s e := by
            rw [limL, if_neg c, if_neg c2, if_neg c3]
          rw [z]
          have i := ih s e
          have t : ∀ j, 0 ≤ x.1 + (x.2 - x.1) * j := fun j => by
            rw [g0, Int.zero_mul]
            omega
          cases h : limL r s e with
          | none =>
            rw [h] at i
            exact fun j w => i j ((more j).mp w).2
          | some y =>
            rw [h] at i
            show In y k ↔ _
            rw [show In y k ↔ _ from i, more]
            exact ⟨fun w => ⟨w.1, t k, w.2⟩, fun w => ⟨w.1, w.2.2⟩⟩
def limits (l : Line) (b : Bd) : Option (List Int × List Int) := limL ((slacks l.base b).zip (slacks (after l.base l.step 1) b)) [] []
/-- the run of slacks tells the pair's slacks -/
theorem line2_iff (l : Line) (b : Bd) (k : Int) : Line2 ((slacks l.base b).zip (slacks (after l.base l.step 1) b)) k ↔ Keeps b (after l.base l.step k) := by
  obtain ⟨⟨p1, p2⟩, ⟨s1, s2⟩⟩ := l
  obtain ⟨low, high, first, rounds⟩ := b
  unfold Line2 Keeps slacks after
  have a1 : p1 - first + (p1 + s1 * 1 - first - (p1 - first)) * k = p1 + s1 * k - first := by grind
  have a2 : p2 - p1 - low + (p2 + s2 * 1 - (p1 + s1 * 1) - low - (p2 - p1 - low)) * k = p2 + s2 * k - (p1 + s1 * k) - low := by grind
  have a3 : ∀ h, h - p2 + p1 + (h - (p2 + s2 * 1) + (p1 + s1 * 1) - (h - p2 + p1)) * k = h - (p2 + s2 * k) + (p1 + s1 * k) := fun h => by grind
  have a4 : ∀ r, r - 1 - p2 + (r - 1 - (p2 + s2 * 1) - (r - 1 - p2)) * k = r - 1 - (p2 + s2 * k) := fun r => by grind
  have c1 : (0 ≤ p1 - first + (p1 + s1 * 1 - first - (p1 - first)) * k) ↔ first ≤ p1 + s1 * k := by omega
  have c2 : (0 ≤ p2 - p1 - low + (p2 + s2 * 1 - (p1 + s1 * 1) - low - (p2 - p1 - low)) * k) ↔ low ≤ p2 + s2 * k - (p1 + s1 * k) := by omega
  have c3 : ∀ h, (0 ≤ h - p2 + p1 + (h - (p2 + s2 * 1) + (p1 + s1 * 1) - (h - p2 + p1)) * k) ↔ p2 + s2 * k - (p1 + s1 * k) ≤ h := fun h => by
    have := a3 h
    omega
  have c4 : ∀ r, (0 ≤ r - 1 - p2 + (r - 1 - (p2 + s2 * 1) - (r - 1 - p2)) * k) ↔ p2 + s2 * k < r := fun r => by
    have := a4 r
    omega
  cases high <;> cases rounds <;>
    simp only [List.cons_append, List.nil_append, List.append_nil, List.zip_cons_cons, List.zip_nil_left, List.mem_cons, List.not_mem_nil, or_false, forall_eq_or_imp, forall_eq, c1, c2, c3, c4, Option.some.injEq, reduceCtorEq, forall_eq', false_implies, implies_true, and_true, true_and]
/-- the pairs that keep all bounds are those within the limits -/
theorem limits_none {l : Line} {b : Bd} (h : limits l b = none) (k : Int) : ¬ Keeps b (after l.base l.step k) := by
  have i := limL_iff k ((slacks l.base b).zip (slacks (after l.base l.step 1) b)) [] []
  have h2 : limL ((slacks l.base b).zip (slacks (after l.base l.step 1) b)) [] [] = none := h
  rw [h2] at i
  exact fun w => i k ((line2_iff l b k).mpr w)
theorem limits_some {l : Line} {b : Bd} {x : List Int × List Int} (h : limits l b = some x) (k : Int) : In x k ↔ Keeps b (after l.base l.step k) := by
  have i := limL_iff k ((slacks l.base b).zip (slacks (after l.base l.step 1) b)) [] []
  have h2 : limL ((slacks l.base b).zip (slacks (after l.base l.step 1) b)) [] [] = some x := h
  rw [h2] at i
  rw [show In x k ↔ _ from i, ← line2_iff]
  exact ⟨fun w => w.2, fun w => ⟨⟨fun u m => absurd m List.not_mem_nil, fun u m => absurd m List.not_mem_nil⟩, w⟩⟩
end Met
namespace Met
/-! ### the span: from where on and up to where the pairs keep all bounds -/
abbrev Span := Option Int × Option Int
def InS (s : Span) (k : Int) : Prop := (∀ a, s.1 = some a → a ≤ k) ∧ ∀ b, s.2 = some b → k ≤ b
def gap (a b : Option Int) : Bool := match a, b with | some a, some b => decide (b < a) | _, _ => false
def spanOf (x : Option (List Int × List Int)) : Option Span :=
  match x with
  | none => none
  | some x => if gap x.1.max? x.2.min? = true then none else some (x.1.max?, x.2.min?)
theorem max_iff (s : List Int) (k : Int) : (∀ u ∈ s, u ≤ k) ↔ ∀ a, s.max? = some a → a ≤ k := by
  cases h : s.max? with
  | none =>
    rw [List.max?_eq_none_iff] at h
    subst h
    simp
  | some a =>
    have := List.max?_eq_some_iff.mp h
    constructor
    · intro w b e
      cases e
      exact w a this.1
    · intro w u m
      exact Int.le_trans (this.2 u m) (w a rfl)
theorem min_iff (s : List Int) (k : Int) : (∀ u ∈ s, k ≤ u) ↔ ∀ a, s.min? = some a → k ≤ a := by
  cases h : s.min? with
  | none =>
    rw [List.min?_eq_none_iff] at h
    subst h
    simp
  | some a =>
    have := List.min?_eq_some_iff.mp h
    constructor
    · intro w b e
      cases e
      exact w a this.1
    · intro w u m
      exact Int.le_trans (w a rfl) (this.2 u m)
theorem span_in (x : List Int × List Int) (k : Int) : In x k ↔ InS (x.1.max?, x.2.min?) k := by
  unfold In InS
  rw [max_iff, min_iff]
theorem gap_no {a b : Option Int} (h : gap a b = true) (k : Int) : ¬ InS (a, b) k := by
  rintro ⟨h1, h2⟩
  cases a with
  | none => cases h
  | some a =>
    cases b with
    | none => cases h
    | some b =>
      have h3 := of_decide_eq_true (show decide (b < a) = true from h)
      have := h1 a rfl
      have := h2 b rfl
      omega
theorem gap_yes {a b : Option Int} (h : gap a b = false) : ∃ k, InS (a, b) k ∧ (∀ x, a = some x → InS (a, b) x) ∧ ∀ x, b = some x → InS (a, b) x := by
  unfold InS
  cases a with
  | none =>
    cases b with
    | none => exact ⟨0, by simp, by simp, by simp⟩
    | some b => exact ⟨b, by simp, by simp, by simp⟩
  | some a =>
    cases b with
    | none => exact ⟨a, by simp, by simp, by simp⟩
    | some b =>
      have h3 := of_decide_eq_false (show decide (b < a) = false from h)
      refine ⟨a, ?_, ?_, ?_⟩ <;> simp <;> omega
/-- the pairs of rounds that are told -/
def Good (p q : Pr) (b : Bd) (e : Pr) : Prop := Meet p q e ∧ Keeps b e
/-- what the span says of the pairs; the line's step is not (0, 0) -/
structure Spans (p q : Pr) (b : Bd) (l : Line) (s : Span) : Prop where
  good : ∀ e, Good p q b e ↔ ∃ k, InS s k ∧ e = after l.base l.step k
  any : ∃ k, InS s k
  lo : ∀ x, s.1 = some x → InS s x
  hi : ∀ x, s.2 = some x → InS s x
  step : l.step.1 ≠ 0 ∨ l.step.2 ≠ 0
theorem no_line {p q : Pr} {b : Bd} (h : p.1 ≠ 0 ∨ q.1 ≠ 0) (n : lineOf p q = none) (e : Pr) : ¬ Good p q b e := fun g => line_none h n e g.1
theorem no_span {p q : Pr} {b : Bd} {l : Line} (h : p.1 ≠ 0 ∨ q.1 ≠ 0) (n : lineOf p q = some l) (s : spanOf (limits l b) = none) (e : Pr) : ¬ Good p q b e := by
  rintro ⟨m, k⟩
  obtain ⟨i, rfl⟩ := ((line_some h n).1 e).mp m
  cases c : limits l b with
  | none => exact limits_none c i k
  | some x =>
    rw [c] at s
    have s : (if gap x.1.max? x.2.min? = true then none else some (x.1.max?, x.2.min?)) = (none : Option Span) := s
    by_cases g : gap x.1.max? x.2.min? = true
    · exact gap_no g i ((span_in x i).mp ((limits_some c i).mpr k))
    · rw [if_neg g] at s
      cases s
theorem the_span {p q : Pr} {b : Bd} {l : Line} {s : Span} (h : p.1 ≠ 0 ∨ q.1 ≠ 0) (n : lineOf p q = some l) (hs : spanOf (limits l b) = some s) : Spans p q b l s := by
  obtain ⟨L1, L2⟩ := line_some h n
  cases c : limits l b with
  | none =>
    rw [c] at hs
    cases hs
  | some x =>
    rw [c] at hs
    have hs : (if gap x.1.max? x.2.min? = true then none else some (x.1.max?, x.2.min?)) = some s := hs
    by_cases g : gap x.1.max? x.2.min? = true
    · rw [if_pos g] at hs
      cases hs
    · rw [if_neg g] at hs
      have hs := Option.some.inj hs
      subst hs
      have gf : gap x.1.max? x.2.min? = false := by
        cases e : gap x.1.max? x.2.min? with
        | true => exact absurd e g
        | false => rfl
      obtain ⟨k, y1, y2, y3⟩ := gap_yes gf
      refine ⟨fun e => ⟨?_, ?_⟩, ⟨k, y1⟩, y2, y3, L2⟩
      · rintro ⟨m, w⟩
        obtain ⟨i, rfl⟩ := (L1 e).mp m
        exact ⟨i, (span_in x i).mp ((limits_some c i).mpr w), rfl⟩
      · rintro ⟨i, w, rfl⟩
        exact ⟨(L1 _).mpr ⟨i, rfl⟩, (limits_some c i).mp ((span_in x i).mpr w)⟩
/-! ### the pair at an end -/
def Lx (u v : Pr) : Prop := u.1 < v.1 ∨ u.1 = v.1 ∧ u.2 < v.2
/-- whether the first of two slopes that is not 0 is above 0 -/
def up (a b : Int) : Bool := if a = 0 then decide (0 < b) else decide (0 < a)
def least (l : Line) (s : Span) (a b : Int) : Option Pr := ((if up a b = true then s.1 else s.2).map (after l.base l.step ·))
theorem mul_lt {a i j : Int} (h : 0 < a) (w : i < j) : a * i < a * j := Int.mul_lt_mul_of_pos_left w h
theorem Lx_grow {a b : Int} (A B i j : Int) (n : a ≠ 0 ∨ b ≠ 0) (h : up a b = true) (w : i < j) : Lx (A + a * i, B + b * i) (A + a * j, B + b * j) := by
  unfold Lx
  unfold up at h
  by_cases z : a = 0
  · rw [if_pos z] at h
    have h := of_decide_eq_true h
    right
    refine ⟨by show A + a * i = A + a * j; rw [z, Int.zero_mul, Int.zero_mul], ?_⟩
    have := mul_lt h w
    show B + b * i < B + b * j
    omega
  · rw [if_neg z] at h
    have h := of_decide_eq_true h
    left
    have := mul_lt h w
    show A + a * i < A + a * j
    omega
theorem Lx_fall {a b : Int} (A B i j : Int) (n : a ≠ 0 ∨ b ≠ 0) (h : up a b = false) (w : j < i) : Lx (A + a * i, B + b * i) (A + a * j, B + b * j) := by
  have h2 : up (-a) (-b) = true := by
    unfold up at h ⊢
    by_cases z : a = 0
    · rw [if_pos z] at h
      have h := of_decide_eq_false h
      rw [if_pos (by omega)]
      exact decide_eq_true (by omega)
    · rw [if_neg z] at h
      have h := of_decide_eq_false h
      rw [if_neg (by omega)]
      exact decide_eq_true (by omega)
  have u := Lx_grow (a := -a) (b := -b) A B (-i) (-j) (by omega) h2 (by omega)
  rw [Int.neg_mul_neg, Int.neg_mul_neg, Int.neg_mul_neg, Int.neg_mul_neg] at u
  exact u
def LeastBy (key : Pr → Pr) (S : Pr → Prop) (e : Pr) : Prop := S e ∧ ∀ x, S x → x = e ∨ Lx (key e) (key x)
theorem least_some {p q : Pr} {b : Bd} {l : Line} {s : Span} (P : Spans p q b l s) (key : Pr → Pr) (A B u v : Int) (n : u ≠ 0 ∨ v ≠ 0) (hk : ∀ k, key (after l.base l.step k) = (A + u * k, B + v * k)) {e : Pr} (h : least l s u v = some e) :
    LeastBy key (Good p q b) e := by
  unfold least at h
  cases c : up u v with
  | true =>
    rw [c, if_pos rfl] at h
    cases hs : s.1 with
    | none =>
      rw [hs] at h
      cases h
    | some a =>
      rw [hs] at h
      have h : after l.base l.step a = e := Option.some.inj h
      subst h
      refine ⟨(P.good _).mpr ⟨a, P.lo a hs, rfl⟩, fun x g => ?_⟩
      obtain ⟨k, i, rfl⟩ := (P.good x).mp g
      by_cases z : k = a
      · exact .inl (by rw [z])
      · right
        rw [hk, hk]
        exact Lx_grow A B a k n c (by have := i.1 a hs; omega)
  | false =>
    rw [c, if_neg (by decide)] at h
    cases hs : s.2 with
    | none =>
      rw [hs] at h
      cases h
    | some a =>
      rw [hs] at h
      have h : after l.base l.step a = e := Option.some.inj h
      subst h
      refine ⟨(P.good _).mpr ⟨a, P.hi a hs, rfl⟩, fun x g => ?_⟩
      obtain ⟨k, i, rfl⟩ := (P.good x).mp g
      by_cases z : k = a
      · exact .inl (by rw [z])
      · right
        rw [hk, hk]
        exact Lx_fall A B a k n c (by have := i.2 a hs; omega)
/-- no pair is the least one where that end is open -/
theorem least_none {p q : Pr} {b : Bd} {l : Line} {s : Span} (P : Spans p q b l s) (key : Pr → Pr) (A B u v : Int) (n : u ≠ 0 ∨ v ≠ 0) (hk : ∀ k, key (after l.base l.step k) = (A + u * k, B + v * k)) (h : least l s u v = none) :
    ∀ e, Good p q b e → ∃ x, Good p q b x ∧ Lx (key x) (key e) := by
  unfold least at h
  intro e g
  obtain ⟨k, i, rfl⟩ := (P.good e).mp g
  cases c : up u v with
  | true =>
    rw [c, if_pos rfl] at h
    have hs : s.1 = none := by
      cases hs : s.1 with
      | none => rfl
      | some a =>
        rw [hs] at h
        cases h
    refine ⟨_, (P.good _).mpr ⟨k - 1, ⟨fun a e => ?_, fun a e => ?_⟩, rfl⟩, ?_⟩
    · rw [hs] at e
      cases e
    · have := i.2 a e
      omega
    · rw [hk, hk]
      exact Lx_grow A B _ _ n c (by omega)
  | false =>
    rw [c, if_neg (by decide)] at h
    have hs : s.2 = none := by
      cases hs : s.2 with
      | none => rfl
      | some a =>
        rw [hs] at h
        cases h
    refine ⟨_, (P.good _).mpr ⟨k + 1, ⟨fun a e => ?_, fun a e => ?_⟩, rfl⟩, ?_⟩
    · have := i.1 a e
      omega
    · rw [hs] at e
      cases e
    · rw [hk, hk]
      exact Lx_fall A B _ _ n c (by omega)
end Met
namespace Met
/-! ### what is told of meetings, and that it is the only thing that can be told -/
theorem deep (A u c k0 : Int) (h : 0 < u) : ∃ k, k ≤ k0 ∧ A + u * k < c := by
  refine ⟨min k0 (-(A.natAbs + c.natAbs + 1 : Int)), by omega, ?_⟩
  generalize hk : min k0 (-(A.natAbs + c.natAbs + 1 : Int)) = k
  have k1 : k ≤ -(A.natAbs + c.natAbs + 1 : Int) := by omega
  have m : u * k ≤ 1 * k := by
    have : (u - 1) * k ≤ 0 := Int.mul_nonpos_of_nonneg_of_nonpos (by omega) (by omega)
    have e : u * k = (u - 1) * k + k := by grind
    omega
  omega
theorem high (A u c k0 : Int) (h : u < 0) : ∃ k, k0 ≤ k ∧ A + u * k < c := by
  obtain ⟨k, h1, h2⟩ := deep A (-u) c (-k0) (by omega)
  refine ⟨-k, by omega, ?_⟩
  rw [Int.neg_mul] at h2
  rw [Int.mul_neg]
  omega
theorem least_there {p q : Pr} {b : Bd} {l : Line} {s : Span} (P : Spans p q b l s) (key : Pr → Pr) (A B u v : Int) (n : u ≠ 0 ∨ v ≠ 0) (hk : ∀ k, key (after l.base l.step k) = (A + u * k, B + v * k))
    (b1 : u ≠ 0 → ∃ c, ∀ e, Good p q b e → c ≤ (key e).1) (b2 : u = 0 → ∃ c, ∀ e, Good p q b e → c ≤ (key e).2) : ∃ e, least l s u v = some e := by
  unfold least
  obtain ⟨k0, i0⟩ := P.any
  cases c : up u v with
  | true =>
    rw [if_pos rfl]
    cases hs : s.1 with
    | some a => exact ⟨_, rfl⟩
    | none =>
      exfalso
      have all : ∀ k, k ≤ k0 → Good p q b (after l.base l.step k) := fun k w => (P.good _).mpr ⟨k, ⟨fun a e => (by rw [hs] at e; cases e), fun a e => by have := i0.2 a e; omega⟩, rfl⟩
      unfold up at c
      by_cases z : u = 0
      · rw [if_pos z] at c
        obtain ⟨m, hm⟩ := b2 z
        obtain ⟨k, h1, h2⟩ := deep B v m k0 (of_decide_eq_true c)
        have := hm _ (all k h1)
        rw [hk] at this
        exact absurd h2 (Int.not_lt.mpr this)
      · rw [if_neg z] at c
        obtain ⟨m, hm⟩ := b1 z
        obtain ⟨k, h1, h2⟩ := deep A u m k0 (of_decide_eq_true c)
        have := hm _ (all k h1)
        rw [hk] at this
        exact absurd h2 (Int.not_lt.mpr this)
  | false =>
    rw [if_neg (by decide)]
    cases hs : s.2 with
    | some a => exact ⟨_, rfl⟩
    | none =>
      exfalso
      have all : ∀ k, k0 ≤ k → Good p q b (after l.base l.step k) := fun k w => (P.good _).mpr ⟨k, ⟨fun a e => by have := i0.1 a e; omega, fun a e => by rw [hs] at e; cases e⟩, rfl⟩
      unfold up at c
      by_cases z : u = 0
      · rw [if_pos z] at c
        have c := of_decide_eq_false c
        obtain ⟨m, hm⟩ := b2 z
        obtain ⟨k, h1, h2⟩ := high B v m k0 (by omega)
        have := hm _ (all k h1)
        rw [hk] at this
        exact absurd h2 (Int.not_lt.mpr this)
      · rw [if_neg z] at c
        have c := of_decide_eq_false c
        obtain ⟨m, hm⟩ := b1 z
        obtain ⟨k, h1, h2⟩ := high A u m k0 (by omega)
        have := hm _ (all k h1)
        rw [hk] at this
        exact absurd h2 (Int.not_lt.mpr this)
def kNear (e : Pr) : Pr := (e.2 - e.1, e.2)
def kSoon (e : Pr) : Pr := (e.2, -e.1)
def kLate (e : Pr) : Pr := (-e.1, e.2)
def kEach (e : Pr) : Pr := (e.2, e.1)
theorem kNear_at (l : Line) (k : Int) : kNear (after l.base l.step k) = (l.base.2 - l.base.1 + (l.step.2 - l.step.1) * k, l.base.2 + l.step.2 * k) := by
  refine Prod.ext ?_ rfl
  show l.base.2 + l.step.2 * k - (l.base.1 + l.step.1 * k) = l.base.2 - l.base.1 + (l.step.2 - l.step.1) * k
  grind
theorem kSoon_at (l : Line) (k : Int) : kSoon (after l.base l.step k) = (l.base.2 + l.step.2 * k, -l.base.1 + -l.step.1 * k) := by
  refine Prod.ext rfl ?_
  show -(l.base.1 + l.step.1 * k) = -l.base.1 + -l.step.1 * k
  grind
theorem kLate_at (l : Line) (k : Int) : kLate (after l.base l.step k) = (-l.base.1 + -l.step.1 * k, l.base.2 + l.step.2 * k) := by
  refine Prod.ext ?_ rfl
  show -(l.base.1 + l.step.1 * k) = -l.base.1 + -l.step.1 * k
  grind
theorem kEach_at (l : Line) (k : Int) : kEach (after l.base l.step k) = (l.base.2 + l.step.2 * k, l.base.1 + l.step.1 * k) := rfl
/-- the pairs in their order: which step, from where, up to where -/
structure Row where
  st : Pr
  lo : Int
  hi : Option Int
def rowOf (l : Line) (s : Span) : Row :=
  if up l.step.2 l.step.1 = true then ⟨l.step, s.1.getD 0, s.2⟩ else ⟨(-l.step.1, -l.step.2), -(s.2.getD 0), s.1.map (- ·)⟩
def within (hi : Option Int) (at' : Int) : Bool := match hi with | none => true | some h => decide (at' ≤ h)
def rowAt (l : Line) (r : Row) (n : Nat) : Option Pr := if within r.hi (r.lo + n) = true then some (after l.base r.st (r.lo + n)) else none
structure Told where
  near : Option Pr
  soon : Option Pr
  late : Option Pr
  amount : Option Int
  nth : Nat → Option Pr
def nought : Told := ⟨none, none, none, some 0, fun _ => none⟩
def amountOf (s : Span) : Option Int := match s.1, s.2 with | some a, some b => some (b - a + 1) | _, _ => none
def spanTold (l : Line) (s : Span) : Told :=
  ⟨least l s (l.step.2 - l.step.1) l.step.2, least l s l.step.2 (-l.step.1), least l s (-l.step.1) l.step.2, amountOf s, rowAt l (rowOf l s)⟩
def told (p q : Pr) (b : Bd) : Told :=
  match lineOf p q with
  | none => nought
  | some l => match spanOf (limits l b) with
    | none => nought
    | some s => spanTold l s
structure Each (S : Pr → Prop) (f : Nat → Option Pr) : Prop where
  good : ∀ n e, f n = some e → S e
  all : ∀ e, S e → ∃ n, f n = some e
  lt : ∀ m n e x, m < n → f m = some e → f n = some x → Lx (kEach e) (kEach x)
  down : ∀ n, f n = none → f (n + 1) = none
structure Spec (S : Pr → Prop) (t : Told) : Prop where
  near : ∀ e, t.near = some e → LeastBy kNear S e
  near0 : t.near = none → ∀ e, ¬ S e
  soon : ∀ e, t.soon = some e → LeastBy kSoon S e
  soon0 : t.soon = none → ∀ e, ¬ S e
  late : ∀ e, t.late = some e → LeastBy kLate S e
  late0 : t.late = none → ∀ e, S e → ∃ x, S x ∧ Lx (kLate x) (kLate e)
  each : Each S t.nth
  amount : ∀ m, t.amount = some m → 0 ≤ m ∧ ∀ n : Nat, (t.nth n).isSome = true ↔ (n : Int) < m
  amount0 : t.amount = none → ∀ n, (t.nth n).isSome = true
theorem nought_spec {S : Pr → Prop} (h : ∀ e, ¬ S e) : Spec S nought := by
  refine ⟨nofun, fun _ => h, nofun, fun _ => h, nofun, fun _ e g => absurd g (h e), ⟨nofun, fun e g => absurd g (h e), nofun, fun _ _ => rfl⟩, fun m e => ?_, nofun⟩
  have e : (0 : Int) = m := Option.some.inj e
  subst e
  exact ⟨Int.le_refl _, fun n => ⟨nofun, fun w => absurd w (by omega)⟩⟩
theorem row_ok {p q : Pr} {b : Bd} {l : Line} {s : Span} (P : Spans p q b l s) :
    (∀ k, (∃ i, InS s i ∧ after l.base l.step i = after l.base (rowOf l s).st k) ↔ (rowOf l s).lo ≤ k ∧ within (rowOf l s).hi k = true) ∧ up (rowOf l s).st.2 (rowOf l s).st.1 = true ∧ ((rowOf l s).st.2 ≠ 0 ∨ (rowOf l s).st.1 ≠ 0) ∧
    (∀ k, ∃ i, after l.base l.step k = after l.base (rowOf l s).st i ∧ (InS s k ↔ (rowOf l s).lo ≤ i ∧ within (rowOf l s).hi i = true)) ∧ (∀ n : Nat, within (rowOf l s).hi ((rowOf l s).lo + n) = true ↔ ∀ m, amountOf s = some m → (n : Int) < m) ∧
    (∀ m, amountOf s = some m → 0 ≤ m) := by
  have inj : ∀ (st : Pr) i j, (st.2 ≠ 0 ∨ st.1 ≠ 0) → after l.base st i = after l.base st j → i = j := by
    intro st i j h e
    have e1 : l.base.1 + st.1 * i = l.base.1 + st.1 * j := congrArg Prod.fst e
    have e2 : l.base.2 + st.2 * i = l.base.2 + st.2 * j := congrArg Prod.snd e
    rcases h with h | h
    · exact Int.eq_of_mul_eq_mul_left h (by omega)
    · exact Int.eq_of_mul_eq_mul_left h (by omega)
  have there := least_there P kEach l.base.2 l.base.1 l.step.2 l.step.1 (P.step.symm) (kEach_at l)
    (fun _ => ⟨b.first + b.low, fun e g => by have := g.2.1; have := g.2.2.1; show _ ≤ e.2; omega⟩) (fun _ => ⟨b.first, fun e g => g.2.1⟩)
  obtain ⟨e0, he0⟩ := there
  unfold least at he0
  obtain ⟨k0, i0⟩ := P.any
  have aff : ∀ k, after l.base (-l.step.1, -l.step.2) k = after l.base l.step (-k) := fun k => by
    refine Prod.ext ?_ ?_
    · show l.base.1 + -l.step.1 * k = l.base.1 + l.step.1 * -k
      grind
    · show l.base.2 + -l.step.2 * k = l.base.2 + l.step.2 * -k
      grind
  unfold rowOf
  cases c : up l.step.2 l.step.1 with
  | true =>
    rw [c, if_pos rfl] at he0
    rw [if_pos rfl]
    cases hs : s.1 with
    | none =>
      rw [hs] at he0
      cases he0
    | some a =>
      have iff : ∀ k, InS s k ↔ a ≤ k ∧ within s.2 k = true := fun k => by
        unfold InS within
        rw [hs]
        cases s.2 <;> simp
      have ia := (iff k0).mp i0
      refine ⟨fun k => ⟨?_, fun w => ⟨k, (iff k).mpr w, rfl⟩⟩, c, P.step.symm, fun k => ⟨k, rfl, iff k⟩, fun n => ?_, fun m e => ?_⟩
      · rintro ⟨i, w, e⟩
        have e := inj _ _ _ P.step.symm e
        subst e
        exact (iff i).mp w
      · show within s.2 (a + n) = true ↔ _
        unfold within amountOf
        rw [hs]
        cases s.2 with
        | none => simp
        | some b =>
          simp
          omega
      · have i2 := i0.2
        have i1 := i0.1
        unfold amountOf at e
        rw [hs] at e
        cases h2 : s.2 with
        | none =>
          rw [h2] at e
          cases e
        | some d =>
          rw [h2] at e
          have e : d - a + 1 = m := Option.some.inj e
          have := i1 a hs
          have := i2 d h2
          omega
  | false =>
    rw [c, if_neg (by decide)] at he0
    rw [if_neg (by decide)]
    cases hs : s.2 with
    | none =>
      rw [hs] at he0
      cases he0
    | some a =>
      have iff : ∀ k, InS s (-k) ↔ -a ≤ k ∧ within (s.1.map (- ·)) k = true := fun k => by
        unfold InS within
        rw [hs]
        cases s.1 <;> simp <;> omega
      have upn : up (-l.step.2) (-l.step.1) = true := by
        have n := P.step
        unfold up at c ⊢
        by_cases z : l.step.2 = 0
        · rw [if_pos z] at c
          have c := of_decide_eq_false c
          rw [if_pos (by omega)]
          exact decide_eq_true (by omega)
        · rw [if_neg z] at c
          have c := of_decide_eq_false c
          rw [if_neg (by omega)]
          exact decide_eq_true (by omega)
      refine ⟨fun k => ⟨?_, fun w => ⟨-k, (iff k).mpr w, (aff k).symm⟩⟩, upn, ?_, fun k => ⟨-k, ?_, ?_⟩, fun n => ?_, fun m e => ?_⟩
      · rintro ⟨i, w, e⟩
        have e : after l.base l.step i = after l.base (-l.step.1, -l.step.2) k := e
        rw [aff] at e
        have e := inj _ _ _ P.step.symm e
        subst e
        exact (iff k).mp w
      · have := P.step
        show -l.step.2 ≠ 0 ∨ -l.step.1 ≠ 0
        omega
      · show _ = after l.base (-l.step.1, -l.step.2) (-k)
        rw [aff, Int.neg_neg]
      · have := iff (-k)
        rw [Int.neg_neg] at this
        exact this
      · show within (s.1.map (- ·)) (-a + n) = true ↔ _
        unfold within amountOf
        rw [hs]
        cases s.1 with
        | none => simp
        | some b =>
          simp
          omega
      · have i2 := i0.2
        have i1 := i0.1
        unfold amountOf at e
        rw [hs] at e
        cases h2 : s.1 with
        | none =>
          rw [h2] at e
          cases e
        | some d =>
          rw [h2] at e
          have e : a - d + 1 = m := Option.some.inj e
          have := i1 d h2
          have := i2 a hs
          omega
theorem span_spec {p q : Pr} {b : Bd} {l : Line} {s : Span} (P : Spans p q b l s) : Spec (Good p q b) (spanTold l s) := by
  have n1 : l.step.2 - l.step.1 ≠ 0 ∨ l.step.2 ≠ 0 := by have := P.step; omega
  have n2 : l.step.2 ≠ 0 ∨ -l.step.1 ≠ 0 := by have := P.step; omega
  have n3 : -l.step.1 ≠ 0 ∨ l.step.2 ≠ 0 := by have := P.step; omega
  obtain ⟨r1, r2, r3, r4, r5, r6⟩ := row_ok P
  have some_of : ∀ n e, rowAt l (rowOf l s) n = some e → within (rowOf l s).hi ((rowOf l s).lo + n) = true ∧ e = after l.base (rowOf l s).st ((rowOf l s).lo + n) := fun n e h => by
    unfold rowAt at h
    by_cases c : within (rowOf l s).hi ((rowOf l s).lo + n) = true
    · rw [if_pos c] at h
      exact ⟨c, (Option.some.inj h).symm⟩
    · rw [if_neg c] at h
      cases h
  have is_some : ∀ n, (rowAt l (rowOf l s) n).isSome = true ↔ within (rowOf l s).hi ((rowOf l s).lo + n) = true := fun n => by
    unfold rowAt
    by_cases c : within (rowOf l s).hi ((rowOf l s).lo + n) = true
    · rw [if_pos c]
      exact ⟨fun _ => c, fun _ => rfl⟩
    · rw [if_neg c]
      exact ⟨fun h => (by cases h), fun h => absurd h c⟩
  refine ⟨fun e h => least_some P kNear _ _ _ _ n1 (kNear_at l) h, fun h => ?_, fun e h => least_some P kSoon _ _ _ _ n2 (kSoon_at l) h, fun h => ?_, fun e h => least_some P kLate _ _ _ _ n3 (kLate_at l) h,
    fun h => least_none P kLate _ _ _ _ n3 (kLate_at l) h, ⟨fun n e h => ?_, fun e g => ?_, fun m n e x w h1 h2 => ?_, fun n h => ?_⟩, fun m e => ?_, fun e n => ?_⟩
  · obtain ⟨e, he⟩ := least_there P kNear _ _ _ _ n1 (kNear_at l) (fun _ => ⟨b.low, fun e g => g.2.2.1⟩) (fun _ => ⟨b.first + b.low, fun e g => by have := g.2.1; have := g.2.2.1; show _ ≤ e.2; omega⟩)
    exact absurd (he.symm.trans h) nofun
  · obtain ⟨e, he⟩ := least_there P kSoon _ _ _ _ n2 (kSoon_at l) (fun _ => ⟨b.first + b.low, fun e g => by have := g.2.1; have := g.2.2.1; show _ ≤ e.2; omega⟩)
      (fun z => ⟨b.low - l.base.2, fun e g => by
        obtain ⟨k, i, rfl⟩ := (P.good e).mp g
        have u := g.2.2.1
        have u2 : (after l.base l.step k).2 = l.base.2 + l.step.2 * k := rfl
        rw [z, Int.zero_mul] at u2
        show b.low - l.base.2 ≤ -(after l.base l.step k).1
        omega⟩)
    exact absurd (he.symm.trans h) nofun
  · obtain ⟨c, rfl⟩ := some_of n e h
    obtain ⟨i, w, e2⟩ := (r1 _).mpr ⟨by omega, c⟩
    exact (P.good _).mpr ⟨i, w, e2.symm⟩
  · obtain ⟨k, i, rfl⟩ := (P.good e).mp g
    obtain ⟨j, e2, w⟩ := r4 k
    obtain ⟨w1, w2⟩ := w.mp i
    refine ⟨(j - (rowOf l s).lo).toNat, ?_⟩
    show rowAt l (rowOf l s) _ = _
    have z : (rowOf l s).lo + ((j - (rowOf l s).lo).toNat : Int) = j := by omega
    unfold rowAt
    rw [z, if_pos w2, e2]
  · obtain ⟨c1, rfl⟩ := some_of m e h1
    obtain ⟨c2, rfl⟩ := some_of n x h2
    exact Lx_grow l.base.2 l.base.1 _ _ r3 r2 (by omega)
  · have c : ¬ (rowAt l (rowOf l s) n).isSome = true := by
      rw [show rowAt l (rowOf l s) n = none from h]
      decide
    rw [is_some, r5] at c
    have c2 : ¬ (rowAt l (rowOf l s) (n + 1)).isSome = true := by
      rw [is_some, r5]
      intro w
      exact c fun m e => by have := w m e; omega
    show rowAt l (rowOf l s) (n + 1) = none
    cases z : rowAt l (rowOf l s) (n + 1) with
    | none => rfl
    | some y =>
      rw [z] at c2
      exact absurd rfl c2
  · refine ⟨r6 m e, fun n => ?_⟩
    show (rowAt l (rowOf l s) n).isSome = true ↔ _
    rw [is_some, r5]
    exact ⟨fun w => w m e, fun w m' e' => by
      have : m = m' := Option.some.inj (e.symm.trans e')
      omega⟩
  · show (rowAt l (rowOf l s) n).isSome = true
    rw [is_some, r5]
    intro m e'
    exact absurd (e.symm.trans e') nofun
theorem told_spec {p q : Pr} (b : Bd) (h : p.1 ≠ 0 ∨ q.1 ≠ 0) : Spec (Good p q b) (told p q b) := by
  unfold told
  cases n : lineOf p q with
  | none => exact nought_spec (no_line h n)
  | some l =>
    cases s : spanOf (limits l b) with
    | none =>
      simp only [s]
      exact nought_spec (no_span h n s)
    | some sp =>
      simp only [s]
      exact span_spec (the_span h n s)
end Met
namespace Met
/-! ### the greatest common divisor by turns of Euclid; the step of the line -/
theorem divOf_gcd {a b : Int} (h : a ≠ 0 ∨ b ≠ 0) : (divOf a b).g = ((Nat.gcd a.natAbs b.natAbs : Nat) : Int) := by
  obtain ⟨pos, eq, da, db⟩ := divOf_ok h
  generalize divOf a b = d at pos eq da db
  have h1 : d.g.natAbs ∣ Nat.gcd a.natAbs b.natAbs := Nat.dvd_gcd (Int.natAbs_dvd_natAbs.mpr da) (Int.natAbs_dvd_natAbs.mpr db)
  have h2 : ((Nat.gcd a.natAbs b.natAbs : Nat) : Int) ∣ d.g := by
    rw [← eq]
    refine Int.dvd_add (Int.dvd_mul_of_dvd_left ?_) (Int.dvd_mul_of_dvd_left ?_)
    · exact Int.ofNat_dvd_left.mpr (Nat.gcd_dvd_left _ _)
    · exact Int.ofNat_dvd_left.mpr (Nat.gcd_dvd_right _ _)
  have h3 : Nat.gcd a.natAbs b.natAbs ∣ d.g.natAbs := Int.ofNat_dvd_left.mp h2
  have h4 := Nat.dvd_antisymm h1 h3
  omega
/-- behind i turns of Euclid -/
structure EU (a b i x y : Nat) : Prop where
  gcd : Nat.gcd x y = Nat.gcd a b
  less : 1 ≤ i → y < x ∧ x * y * 2 ^ (i - 1) ≤ a * b
theorem EU.start (a b : Nat) : EU a b 0 a b := ⟨rfl, fun h => absurd h (by decide)⟩
theorem EU.turn {a b i x y : Nat} (e : EU a b i x y) (h0 : i = 0 → x = a ∧ y = b) (h : y ≠ 0) : EU a b (i + 1) y (x % y) := by
  have lt := Nat.mod_lt x (Nat.pos_of_ne_zero h)
  refine ⟨?_, fun _ => ⟨lt, ?_⟩⟩
  · rw [← e.gcd, Nat.gcd_comm x y, Nat.gcd_rec y x, Nat.gcd_comm]
  · cases i with
    | zero =>
      obtain ⟨rfl, rfl⟩ := h0 rfl
      show y * (x % y) * 1 ≤ x * y
      rw [Nat.mul_one, Nat.mul_comm x y]
      exact Nat.mul_le_mul_left y (Nat.mod_le x y)
    | succ i =>
      obtain ⟨l, le⟩ := e.less (Nat.le_add_left _ _)
      show y * (x % y) * 2 ^ (i + 1) ≤ a * b
      have e1 : i + 1 - 1 = i := rfl
      rw [e1] at le
      have two : x % y * 2 ≤ x := by
        have := Nat.mod_add_div x y
        have d1 : 1 ≤ x / y := (Nat.one_le_div_iff (Nat.pos_of_ne_zero h)).mpr (Nat.le_of_lt l)
        have d2 : y * 1 ≤ y * (x / y) := Nat.mul_le_mul_left y d1
        omega
      have m : y * (x % y) * 2 ^ (i + 1) = x % y * 2 * y * 2 ^ i := by
        rw [Nat.pow_succ]
        grind
      rw [m]
      exact Nat.le_trans (Nat.mul_le_mul_right _ (Nat.mul_le_mul_right _ two)) le
theorem EU.done {a b x : Nat} {i : Nat} (e : EU a b i x 0) : x = Nat.gcd a b := by
  rw [← e.gcd, Nat.gcd_zero_right]
theorem EU.late {a b x y : Nat} (e : EU a b 2000 x y) (h : a * b < 2 ^ 1999) : x = Nat.gcd a b := by
  obtain ⟨l, le⟩ := e.less (by decide)
  have z : x * y = 0 := by
    by_cases c : x * y = 0
    · exact c
    · have : 1 * 2 ^ 1999 ≤ x * y * 2 ^ 1999 := Nat.mul_le_mul_right _ (Nat.pos_of_ne_zero c)
      have le : x * y * 2 ^ 1999 ≤ a * b := le
      omega
  have y0 : y = 0 := by
    rcases Nat.mul_eq_zero.mp z with q | q
    · omega
    · exact q
  rw [y0] at e
  exact e.done
def stepOf (p q : Pr) : Pr := (q.1 / (divOf p.1 q.1).g, p.1 / (divOf p.1 q.1).g)
theorem line_step {p q : Pr} {l : Line} (h : lineOf p q = some l) : l.step = stepOf p q := by
  unfold lineOf at h
  by_cases c : (q.2 - p.2) % (divOf p.1 q.1).g ≠ 0
  · simp only [if_pos c] at h
    cases h
  · simp only [if_neg c] at h
    have h := Option.some.inj h
    subst h
    rfl
theorem meet_line {p q e : Pr} (h : p.1 ≠ 0 ∨ q.1 ≠ 0) (m : Meet p q e) : ∃ l, lineOf p q = some l := by
  cases c : lineOf p q with
  | none => exact absurd m (line_none h c e)
  | some l => exact ⟨l, rfl⟩
/-! ### the nearest pair, judged -/
def optLe (o : Option Int) (x : Int) : Bool := match o with | none => true | some h => decide (x ≤ h)
def optLt (o : Option Int) (x : Int) : Bool := match o with | none => true | some h => decide (x < h)
def meetB (p q e : Pr) : Bool := decide (p.1 * e.1 + p.2 = q.1 * e.2 + q.2)
def goodB (p q : Pr) (b : Bd) (e : Pr) : Bool := (meetB p q e && decide (b.first ≤ e.1) && decide (b.low ≤ e.2 - e.1)) && (optLe b.high (e.2 - e.1) && optLt b.rounds e.2)
theorem goodB_iff (p q : Pr) (b : Bd) (e : Pr) : goodB p q b e = true ↔ Good p q b e := by
  obtain ⟨low, high, first, rounds⟩ := b
  unfold goodB meetB Good Meet Keeps optLe optLt
  cases high <;> cases rounds <;> simp <;> grind
def wayOf (s : Pr) : Int := if s.2 ≠ s.1 then s.2 - s.1 else s.2
def lawNear (p q : Pr) (b : Bd) (e : Pr) : Bool := goodB p q b e && !goodB p q b (after e (stepOf p q) (if 0 < wayOf (stepOf p q) then -1 else 1))
theorem way_up (s : Pr) : up (s.2 - s.1) s.2 = decide (0 < wayOf s) := by
  unfold up wayOf
  by_cases c : s.2 = s.1
  · rw [if_pos (by omega), if_neg (by omega)]
  · rw [if_neg (by omega), if_pos c]
theorem after_after (e s : Pr) (i j : Int) : after (after e s i) s j = after e s (i + j) := by
  refine Prod.ext ?_ ?_
  · show e.1 + s.1 * i + s.1 * j = e.1 + s.1 * (i + j)
    grind
  · show e.2 + s.2 * i + s.2 * j = e.2 + s.2 * (i + j)
    grind
theorem Lx_no (u : Pr) : ¬ Lx u u := by
  unfold Lx
  omega
theorem Lx_as {u v : Pr} (h : Lx u v) : ¬ Lx v u := by
  unfold Lx at *
  omega
theorem lx_near {l : Line} (hs : l.step.1 ≠ 0 ∨ l.step.2 ≠ 0) (i j : Int) :
    (up (l.step.2 - l.step.1) l.step.2 = true → i < j → Lx (kNear (after l.base l.step i)) (kNear (after l.base l.step j))) ∧
    (up (l.step.2 - l.step.1) l.step.2 = false → j < i → Lx (kNear (after l.base l.step i)) (kNear (after l.base l.step j))) := by
  have n : l.step.2 - l.step.1 ≠ 0 ∨ l.step.2 ≠ 0 := by omega
  rw [kNear_at, kNear_at]
  exact ⟨fun u w => Lx_grow _ _ _ _ n u w, fun u w => Lx_fall _ _ _ _ n u w⟩
theorem near_iff {p q : Pr} (b : Bd) (e : Pr) (h : p.1 ≠ 0 ∨ q.1 ≠ 0) : lawNear p q b e = true ↔ (told p q b).near = some e := by
  have T := told_spec (p := p) (q := q) b h
  unfold lawNear
  rw [Bool.and_eq_true, Bool.not_eq_true', goodB_iff]
  have fls : ∀ x, goodB p q b x = false ↔ ¬ Good p q b x := fun x => by
    rw [← goodB_iff]
    simp
  rw [fls]
  constructor
  · rintro ⟨g, ng⟩
    cases hn : (told p q b).near with
    | none => exact absurd g (T.near0 hn e)
    | some n =>
      obtain ⟨gn, le⟩ := T.near n hn
      rcases le e g with w | w
      · rw [w]
      · exfalso
        obtain ⟨l, hl⟩ := meet_line h g.1
        obtain ⟨L1, L2⟩ := line_some h hl
        rw [← line_step hl] at ng
        obtain ⟨k, rfl⟩ := (L1 e).mp g.1
        obtain ⟨kn, rfl⟩ := (L1 n).mp gn.1
        have conv : ∀ m, (kn ≤ m ∧ m ≤ k) ∨ (k ≤ m ∧ m ≤ kn) → Good p q b (after l.base l.step m) := fun m hm => by
          refine ⟨(L1 _).mpr ⟨m, rfl⟩, ?_⟩
          cases c : limits l b with
          | none => exact absurd g.2 (limits_none c k)
          | some x =>
            rw [← limits_some c]
            have i1 := (limits_some c k).mpr g.2
            have i2 := (limits_some c kn).mpr gn.2
            refine ⟨fun u hu => ?_, fun u hu => ?_⟩
            · have := i1.1 u hu
              have := i2.1 u hu
              omega
            · have := i1.2 u hu
              have := i2.2 u hu
              omega
        have U := way_up l.step
        cases cu : up (l.step.2 - l.step.1) l.step.2 with
        | true =>
          rw [cu] at U
          have U := of_decide_eq_true U.symm
          rw [if_pos U, after_after] at ng
          have lt : kn < k := by
            rcases Int.lt_trichotomy kn k with z | z | z
            · exact z
            · rw [z] at w
              exact absurd w (Lx_no _)
            · exact absurd ((lx_near L2 k kn).1 cu z) (Lx_as w)
          exact ng (conv _ (by omega))
        | false =>
          rw [cu] at U
          have U := of_decide_eq_false U.symm
          rw [if_neg U, after_after] at ng
          have lt : k < kn := by
            rcases Int.lt_trichotomy k kn with z | z | z
            · exact z
            · rw [z] at w
              exact absurd w (Lx_no _)
            · exact absurd ((lx_near L2 k kn).2 cu z) (Lx_as w)
          exact ng (conv _ (by omega))
  · intro hn
    obtain ⟨g, le⟩ := T.near e hn
    refine ⟨g, fun g2 => ?_⟩
    obtain ⟨l, hl⟩ := meet_line h g.1
    obtain ⟨L1, L2⟩ := line_some h hl
    rw [← line_step hl] at g2
    obtain ⟨k, rfl⟩ := (L1 e).mp g.1
    have U := way_up l.step
    cases cu : up (l.step.2 - l.step.1) l.step.2 with
    | true =>
      rw [cu] at U
      have U := of_decide_eq_true U.symm
      rw [if_pos U, after_after] at g2
      have w := (lx_near L2 (k + -1) k).1 cu (by omega)
      rcases le _ g2 with z | z
      · rw [z] at w
        exact Lx_no _ w
      · exact Lx_as w z
    | false =>
      rw [cu] at U
      have U := of_decide_eq_false U.symm
      rw [if_neg U, after_after] at g2
      have w := (lx_near L2 (k + 1) k).2 cu (by omega)
      rcases le _ g2 with z | z
      · rw [z] at w
        exact Lx_no _ w
      · exact Lx_as w z
end Met
namespace Met
/-! ### gaps, the modulus, the paper -/
def lackB (zs : List (Int × Int)) : Bool := zs.any fun x => decide (x.1 < 0) && decide (x.1 ≤ x.2)
def lackA (zs : List (Int × Int)) : Bool := zs.any fun x => decide (x.2 < 0) && decide (x.2 ≤ x.1)
def pairsOf (p q : Pr) (b : Bd) (e : Pr) : List (Int × Int) := (slacks e b).zip (slacks (after e (stepOf p q) 1) b)
def gapB (p q : Pr) (b : Bd) (e : Pr) : Bool := meetB p q e && (lackB (pairsOf p q b e) && lackA (pairsOf p q b e))
/-- by the slopes -/
def spares (p q : Pr) (b : Bd) (e : Pr) : List (Int × Int) :=
  [(e.1 - b.first, (stepOf p q).1), (e.2 - e.1 - b.low, (stepOf p q).2 - (stepOf p q).1)] ++ (match b.high with | some h => [(h - e.2 + e.1, (stepOf p q).1 - (stepOf p q).2)] | none => []) ++
    (match b.rounds with | some r => [(r - 1 - e.2, -(stepOf p q).2)] | none => [])
def slopeB (zs : List (Int × Int)) : Bool := zs.any fun x => decide (x.1 < 0) && decide (0 ≤ x.2)
def slopeA (zs : List (Int × Int)) : Bool := zs.any fun x => decide (x.1 + x.2 < 0) && decide (x.2 ≤ 0)
def lawGap (p q : Pr) (b : Bd) (e : Pr) : Bool := meetB p q e && (slopeB (spares p q b e) && slopeA (spares p q b e))
theorem spares_eq (p q : Pr) (b : Bd) (e : Pr) : pairsOf p q b e = (spares p q b e).map fun x => (x.1, x.1 + x.2) := by
  obtain ⟨low, high, first, rounds⟩ := b
  obtain ⟨e1, e2⟩ := e
  unfold pairsOf spares slacks after
  generalize stepOf p q = s
  cases high <;> cases rounds <;> simp [Prod.ext_iff] <;> omega
theorem lackB_map (zs : List (Int × Int)) : lackB (zs.map fun x => (x.1, x.1 + x.2)) = slopeB zs := by
  unfold lackB slopeB
  rw [List.any_map]
  congr 1
  funext x
  have : decide (x.1 ≤ x.1 + x.2) = decide (0 ≤ x.2) := decide_eq_decide.mpr (by omega)
  simp only [Function.comp, this]
theorem lackA_map (zs : List (Int × Int)) : lackA (zs.map fun x => (x.1, x.1 + x.2)) = slopeA zs := by
  unfold lackA slopeA
  rw [List.any_map]
  congr 1
  funext x
  have : decide (x.1 + x.2 ≤ x.1) = decide (x.2 ≤ 0) := decide_eq_decide.mpr (by omega)
  simp only [Function.comp, this]
theorem gap_eq (p q : Pr) (b : Bd) (e : Pr) : lawGap p q b e = gapB p q b e := by
  unfold lawGap gapB
  rw [spares_eq, lackB_map, lackA_map]
def modB (p q : Pr) (m : Int) : Bool := decide (2 ≤ m) && (decide (p.1.fmod m = 0) && (decide (q.1.fmod m = 0) && decide ((q.2 - p.2).fmod m ≠ 0)))
/-! the paper -/
inductive PP
  | modulus (g : Int)
  | near (e : Pr)
  | gap (e : Pr)
def gapAt (l : Line) : Option (List Int × List Int) → Pr
  | none => after l.base l.step 0
  | some x => after l.base l.step (x.1.max?.getD 0 - 1)
def paperOf (p q : Pr) (b : Bd) : PP :=
  match lineOf p q with
  | none => .modulus (divOf p.1 q.1).g
  | some l => match spanOf (limits l b) with
    | none => .gap (gapAt l (limits l b))
    | some s => .near ((least l s (l.step.2 - l.step.1) l.step.2).getD (0, 0))
/-- the values that are judged -/
inductive Hd
  | near
  | modulus
  | gap
  | other
deriving DecidableEq
inductive PV
  | no
  | two (h : Hd) (x : Option Int)
  | three (h : Hd) (x y : Int)
def judge (p q : Pr) (b : Bd) : PV → Bool
  | .no => false
  | .two .modulus (some m) => modB p q m
  | .two _ _ => false
  | .three .near x y => decide ((told p q b).near = some (x, y))
  | .three .gap x y => gapB p q b (x, y)
  | .three _ _ _ => false
def PP.value : PP → PV
  | .modulus g => .two .modulus (some g)
  | .near e => .three .near e.1 e.2
  | .gap e => .three .gap e.1 e.2
theorem paper_mod {p q : Pr} (h : p.1 ≠ 0 ∨ q.1 ≠ 0) (n : lineOf p q = none) : modB p q (divOf p.1 q.1).g = true := by
  have D := divOf_ok h
  unfold lineOf at n
  generalize divOf p.1 q.1 = d at D n
  obtain ⟨pos, _, da, db⟩ := D
  by_cases c : (q.2 - p.2) % d.g ≠ 0
  · have g2 : 2 ≤ d.g := by
      by_cases z : d.g = 1
      · rw [z, Int.emod_one] at c
        exact absurd rfl c
      · omega
    unfold modB
    rw [decide_eq_true g2, Int.fmod_eq_emod_of_nonneg _ (by omega), Int.fmod_eq_emod_of_nonneg _ (by omega), Int.fmod_eq_emod_of_nonneg _ (by omega), decide_eq_true (Int.emod_eq_zero_of_dvd da), decide_eq_true (Int.emod_eq_zero_of_dvd db), decide_eq_true c]
    rfl
  · rw [if_neg c] at n
    cases n
theorem limL_no : ∀ (zs : List (Int × Int)) (s e : List Int), limL zs s e = none → ∃ x ∈ zs, x.2 - x.1 = 0 ∧ x.1 < 0 := by
  intro zs
  induction zs with
  | nil =>
    intro s e h
    cases h
  | cons x r ih =>
    intro s e h
    rw [limL] at h
    by_cases c : 0 < x.2 - x.1
    · rw [if_pos c] at h
      obtain ⟨y, m, w⟩ := ih _ _ h
      exact ⟨y, List.mem_cons_of_mem _ m, w⟩
    · rw [if_neg c] at h
      by_cases c2 : x.2 - x.1 < 0
      · rw [if_pos c2] at h
        obtain ⟨y, m, w⟩ := ih _ _ h
        exact ⟨y, List.mem_cons_of_mem _ m, w⟩
      · rw [if_neg c2] at h
        by_cases c3 : x.1 < 0
        · exact ⟨x, List.mem_cons_self, by omega, c3⟩
        · rw [if_neg c3] at h
          obtain ⟨y, m, w⟩ := ih _ _ h
          exact ⟨y, List.mem_cons_of_mem _ m, w⟩
/-- each limit comes of a run -/
theorem limL_of : ∀ (zs : List (Int × Int)) (s e s2 e2 : List Int), limL zs s e = some (s2, e2) →
    (∀ k ∈ s2, k ∈ s ∨ ∃ x ∈ zs, 0 < x.2 - x.1 ∧ k = -(x.1 / (x.2 - x.1))) ∧ (∀ k ∈ e2, k ∈ e ∨ ∃ x ∈ zs, x.2 - x.1 < 0 ∧ k = x.1 / -(x.2 - x.1)) := by
  intro zs
  induction zs with
  | nil =>
    intro s e s2 e2 h
    have h := Option.some.inj h
    obtain ⟨rfl, rfl⟩ := Prod.mk.inj h
    exact ⟨fun k m => .inl m, fun k m => .inl m⟩
  | cons x r ih =>
    intro s e s2 e2 h
    have up : ∀ {P : Int × Int → Prop}, (∃ y ∈ r, P y) → ∃ y ∈ x :: r, P y := fun ⟨y, m, w⟩ => ⟨y, List.mem_cons_of_mem _ m, w⟩
    rw [limL] at h
    by_cases c : 0 < x.2 - x.1
    · rw [if_pos c] at h
      obtain ⟨h1, h2⟩ := ih _ _ _ _ h
      refine ⟨fun k m => ?_, fun k m => (h2 k m).imp id up⟩
      rcases h1 k m with w | w
      · rcases List.mem_append.mp w with w | w
        · exact .inl w
        · exact .inr ⟨x, List.mem_cons_self, c, List.mem_singleton.mp w⟩
      · exact .inr (up w)
    · rw [if_neg c] at h
      by_cases c2 : x.2 - x.1 < 0
      · rw [if_pos c2] at h
        obtain ⟨h1, h2⟩ := ih _ _ _ _ h
        refine ⟨fun k m => (h1 k m).imp id up, fun k m => ?_⟩
        rcases h2 k m with w | w
        · rcases List.mem_append.mp w with w | w
          · exact .inl w
          · exact .inr ⟨x, List.mem_cons_self, c2, List.mem_singleton.mp w⟩
        · exact .inr (up w)
      · rw [if_neg c2] at h
        by_cases c3 : x.1 < 0
        · rw [if_pos c3] at h
          cases h
        · rw [if_neg c3] at h
          obtain ⟨h1, h2⟩ := ih _ _ _ _ h
          exact ⟨fun k m => (h1 k m).imp id up, fun k m => (h2 k m).imp id up⟩
/-- the runs of a pair further on the line -/
theorem zip_on (l : Line) (b : Bd) (k : Int) :
    (slacks (after l.base l.step k) b).zip (slacks (after (after l.base l.step k) l.step 1) b) =
      ((slacks l.base b).zip (slacks (after l.base l.step 1) b)).map fun x => (x.1 + (x.2 - x.1) * k, x.1 + (x.2 - x.1) * (k + 1)) := by
  obtain ⟨⟨p1, p2⟩, ⟨s1, s2⟩⟩ := l
  obtain ⟨low, high, first, rounds⟩ := b
  unfold slacks after
  cases high <;> cases rounds <;> simp [Prod.ext_iff] <;> grind
theorem paper_gap {p q : Pr} {b : Bd} {l : Line} (h : p.1 ≠ 0 ∨ q.1 ≠ 0) (n : lineOf p q = some l) (s : spanOf (limits l b) = none) : gapB p q b (gapAt l (limits l b)) = true := by
  obtain ⟨L1, L2⟩ := line_some h n
  have on : ∀ k, (lackB (((slacks l.base b).zip (slacks (after l.base l.step 1) b)).map fun x => (x.1 + (x.2 - x.1) * k, x.1 + (x.2 - x.1) * (k + 1))) &&
      lackA (((slacks l.base b).zip (slacks (after l.base l.step 1) b)).map fun x => (x.1 + (x.2 - x.1) * k, x.1 + (x.2 - x.1) * (k + 1)))) = true → gapB p q b (after l.base l.step k) = true := by
    intro k w
    unfold gapB pairsOf
    rw [← line_step n, zip_on, w, show meetB p q (after l.base l.step k) = true from decide_eq_true ((L1 _).mpr ⟨k, rfl⟩)]
    rfl
  cases c : limits l b with
  | none =>
    obtain ⟨x, m, g0, x0⟩ := limL_no _ _ _ c
    refine on 0 ?_
    rw [Bool.and_eq_true]
    refine ⟨List.any_eq_true.mpr ⟨_, List.mem_map.mpr ⟨x, m, rfl⟩, ?_⟩, List.any_eq_true.mpr ⟨_, List.mem_map.mpr ⟨x, m, rfl⟩, ?_⟩⟩
    all_goals
      simp only [g0, Int.zero_mul, Int.add_zero, Bool.and_eq_true, decide_eq_true_eq]
      omega
  | some y =>
    obtain ⟨ss, ee⟩ := y
    rw [c] at s
    have s : (if gap ss.max? ee.min? = true then none else some (ss.max?, ee.min?)) = (none : Option Span) := s
    by_cases g : gap ss.max? ee.min? = true
    · obtain ⟨a, ha⟩ : ∃ a, ss.max? = some a := by
        cases z : ss.max? with
        | none =>
          rw [z] at g
          cases g
        | some a => exact ⟨a, rfl⟩
      obtain ⟨d, hd⟩ : ∃ d, ee.min? = some d := by
        cases z : ee.min? with
        | none =>
          rw [z, ha] at g
          cases g
        | some d => exact ⟨d, rfl⟩
      rw [ha, hd] at g
      have g := of_decide_eq_true (show decide (d < a) = true from g)
      obtain ⟨h1, h2⟩ := limL_of _ _ _ _ _ c
      obtain ⟨x, mx, x0, xa⟩ := (h1 a (List.max?_eq_some_iff.mp ha).1).resolve_left List.not_mem_nil
      obtain ⟨z, mz, z0, zd⟩ := (h2 d (List.min?_eq_some_iff.mp hd).1).resolve_left List.not_mem_nil
      show gapB p q b (after l.base l.step (ss.max?.getD 0 - 1)) = true
      rw [ha]
      show gapB p q b (after l.base l.step (a - 1)) = true
      refine on (a - 1) ?_
      have ux := up_iff (a := x.1) (k := a - 1) x0
      have uz := down_iff (a := z.1) (k := a - 1 + 1) z0
      have e1 : (x.2 - x.1) * (a - 1 + 1) = (x.2 - x.1) * (a - 1) + (x.2 - x.1) := by grind
      have e2 : (z.2 - z.1) * (a - 1 + 1) = (z.2 - z.1) * (a - 1) + (z.2 - z.1) := by grind
      rw [Bool.and_eq_true]
      refine ⟨List.any_eq_true.mpr ⟨_, List.mem_map.mpr ⟨x, mx, rfl⟩, ?_⟩, List.any_eq_true.mpr ⟨_, List.mem_map.mpr ⟨z, mz, rfl⟩, ?_⟩⟩
      all_goals
        simp only [Bool.and_eq_true, decide_eq_true_eq]
        omega
    · rw [if_neg g] at s
      cases s
theorem paper_near {p q : Pr} {b : Bd} {l : Line} {s : Span} (h : p.1 ≠ 0 ∨ q.1 ≠ 0) (n : lineOf p q = some l) (hs : spanOf (limits l b) = some s) : ∃ e, least l s (l.step.2 - l.step.1) l.step.2 = some e ∧ (told p q b).near = some e := by
  have P := the_span h n hs
  obtain ⟨e, he⟩ := least_there P kNear _ _ _ _ (by have := P.step; omega) (kNear_at l) (fun _ => ⟨b.low, fun e g => g.2.2.1⟩) (fun _ => ⟨b.first + b.low, fun e g => by have := g.2.1; have := g.2.2.1; show _ ≤ e.2; omega⟩)
  refine ⟨e, he, ?_⟩
  unfold told
  simp only [n, hs]
  exact he
theorem paper_ok (p q : Pr) (b : Bd) (h : p.1 ≠ 0 ∨ q.1 ≠ 0) : judge p q b (paperOf p q b).value = true := by
  unfold paperOf
  cases n : lineOf p q with
  | none => exact paper_mod h n
  | some l =>
    cases s : spanOf (limits l b) with
    | none =>
      simp only [s]
      exact paper_gap h n s
    | some sp =>
      obtain ⟨e, he, hn⟩ := paper_near h n s
      simp only [s, he, Option.getD_some]
      exact decide_eq_true hn
/-- the word of the paper -/
def PP.isNear : PP → Bool
  | .near _ => true
  | _ => false
theorem paper_truth (p q : Pr) (b : Bd) (h : p.1 ≠ 0 ∨ q.1 ≠ 0) : (told p q b).near.isSome = (paperOf p q b).isNear := by
  unfold paperOf
  cases n : lineOf p q with
  | none =>
    unfold told
    simp only [n]
    rfl
  | some l =>
    cases s : spanOf (limits l b) with
    | none =>
      unfold told
      simp only [n, s]
      rfl
    | some sp =>
      obtain ⟨e, he, hn⟩ := paper_near h n s
      rw [hn]
      simp only [s]
      rfl
end Met
namespace K11
open PySem L2
open L2.My
def top (i : Nat) : Stmt := PySem.Challenge.pw_loopfoundry_k11_papers_of_meetings_judge.main.body.getD i (.Pass ⟨0, 0, 0, 0⟩)
abbrev tWhole : Stmt := top 6
abbrev tPair : Stmt := top 9
abbrev tWideI : Stmt := top 10
abbrev tWidePl : Stmt := top 11
abbrev tCounter : Stmt := top 12
abbrev tChkB : Stmt := top 13
abbrev tDiv : Stmt := top 14
abbrev tLine : Stmt := top 15
abbrev tAfter : Stmt := top 16
abbrev tSlacks : Stmt := top 17
abbrev tLimits : Stmt := top 18
abbrev tSpan : Stmt := top 19
abbrev tGoes : Stmt := top 20
abbrev tLeast : Stmt := top 21
abbrev tEmpty : Stmt := top 23
abbrev tModulus : Stmt := top 25
abbrev tGap : Stmt := top 26
abbrev tPaper : Stmt := top 27
abbrev tDice : Stmt := top 29
abbrev tNextD : Stmt := top 30
abbrev tCells : Stmt := top 31
abbrev tGreat : Stmt := top 32
abbrev tWholeD : Stmt := top 33
abbrev lSteps : Stmt := top 34
abbrev lDiv : Stmt := top 35
abbrev lStep : Stmt := top 36
abbrev lMeets : Stmt := top 37
abbrev lGood : Stmt := top 38
abbrev lMade : Stmt := top 39
abbrev lCount : Stmt := top 40
abbrev lTruth : Stmt := top 41
abbrev lMoved : Stmt := top 42
abbrev lNearest : Stmt := top 43
abbrev lBounds : Stmt := top 44
abbrev lSpares : Stmt := top 45
abbrev lGap : Stmt := top 46
abbrev lPaper : Stmt := top 47
abbrev lPlaces : Stmt := top 48
abbrev lPairs : Stmt := top 49
abbrev lValues : Stmt := top 50
abbrev lRefused : Stmt := top 51
abbrev lOne : Stmt := top 52
abbrev tLaw : Stmt := top 53
abbrev mInit : Stmt := inClass (top 24) 0
abbrev mFind : Stmt := inClass (top 24) 1
abbrev mPlace : Stmt := inClass (top 24) 2
abbrev mOther : Stmt := inClass (top 24) 3
abbrev mLow : Stmt := inClass (top 24) 4
abbrev mHigh : Stmt := inClass (top 24) 5
abbrev mFirst : Stmt := inClass (top 24) 6
abbrev mRounds : Stmt := inClass (top 24) 7
abbrev mNearest : Stmt := inClass (top 24) 8
abbrev mPaper : Stmt := inClass (top 24) 13
abbrev mBool : Stmt := inClass (top 24) 15
/-! ### values by what the checks see of them -/
abbrev kinds : List String := ["bool", "NoneType", "str", "list", "dict"]
/-- an int (told), or something else of a known type -/
inductive Item (K : PySem.W.Frag) (H : Hp) : V → Option Int → Prop
  | int (i : Int) : Item K H (.int i) (some i)
  | other {x : V} {n : String} (t : TyX K H x (.type n)) (m : n ∈ "tuple" :: kinds) : Item K H x none
/-- a pair of two items (told), or something else -/
inductive Two (K : PySem.W.Frag) (H : Hp) : V → Option (Option Int × Option Int) → Prop
  | no {x : V} {n : String} (t : TyX K H x (.type n)) (m : n ∈ "int" :: kinds) : Two K H x none
  | tup {a : Addr} {xs : List V} (e : H a = some (.tup xs)) (l : xs.length ≠ 2) : Two K H (.ref a) none
  | two {a : Addr} {x y : V} {ox oy : Option Int} (e : H a = some (.tup [x, y])) (hx : Item K H x ox) (hy : Item K H y oy) : Two K H (.ref a) (some (ox, oy))
def pairB : Option (Option Int × Option Int) → Bool
  | some (some _, some _) => true
  | _ => false
structure Txt (K : PySem.W.Frag) (mg : Str → Option Value) : Prop where
  isi : mg "isinstance" = none
  int : mg "int" = none
  bool : mg "bool" = none
  tuple : mg "tuple" = none
  len : mg "len" = none
  wide : ∃ t, mg "WIDE" = some (.int (10 ^ 100) t)
section
variable {P : Program} {w : World} {K : PySem.W.Frag} {mg : Str → Option Value} {base : Heap}
/-! ### is_whole -/
def spWhole (K : PySem.W.Frag) : Sp := fun vs H Q _ => ∃ x o, vs = [x] ∧ Item K H x o ∧ Q (.bl o.isSome) H
theorem scWhole : FnScope ["value"] ["value"] (defScope tWhole) := ⟨rfl, rfl, rfl, by decide +kernel, rfl, by decide +kernel, by decide +kernel⟩
theorem ok_whole {f : Addr} {fd : FuncData} (F : Fun K "is_whole" "is_whole" tWhole f fd) (T : Txt K mg) : FnOk P w K mg base CX0 1 f fd ["value"] (spWhole K) := by
  refine F.ok scWhole (fun vs H Q E h => ?_) (fun cdv A outer s H vs Q E hr h => ?_)
  · obtain ⟨x, o, rfl, _⟩ := h
    rfl
  · obtain ⟨x, o, rfl, it, k⟩ := h
    refine ⟨_, pss_one (ps_ret (pe_and (pe_callB call_isi (by rfl) T.isi (by decide +kernel) (pa_cons (pv 0) (pa_cons (pe_bltn (v := .ty "int") (by rfl) T.int (by decide +kernel) rfl) pa_nil)))
      (pe_one (pe_not (pe_callB call_isi (by rfl) T.isi (by decide +kernel) (pa_cons (pv 0) (pa_cons (pe_bltn (v := .ty "bool") (by rfl) T.bool (by decide +kernel) rfl) pa_nil))))))), ?_⟩
    cases it with
    | int i =>
      refine ⟨_, rfl, _, _, _, _, _, rfl, ClsV.ty _, .base (.int i), kit_ty (r := true) (by decide +kernel), _, rfl, iteT ?_⟩
      exact ⟨_, rfl, _, _, _, _, _, rfl, ClsV.ty _, .base (.int i), kit_ty (r := false) (by decide +kernel), _, rfl, k⟩
    | @other _ n t m =>
      simp only [List.mem_cons, List.not_mem_nil, or_false] at m
      rcases m with rfl | rfl | rfl | rfl | rfl | rfl
      case inr.inl =>
        refine ⟨_, rfl, _, _, _, _, _, rfl, ClsV.ty _, t, kit_ty (r := true) (by decide +kernel), _, rfl, iteT ?_⟩
        exact ⟨_, rfl, _, _, _, _, _, rfl, ClsV.ty _, t, kit_ty (r := true) (by decide +kernel), _, rfl, k⟩
      all_goals
        exact ⟨_, rfl, _, _, _, _, _, rfl, ClsV.ty _, t, kit_ty (r := false) (by decide +kernel), _, rfl, iteF k⟩
end
theorem Item.tuple_no {K : PySem.W.Frag} {H : Hp} {a : Addr} {xs : List V} {o : Option Int} (e : H a = some (.tup xs)) (it : Item K H (.ref a) o) : o = none := by
  cases it
  rfl
section
variable {P : Program} {w : World} {K : PySem.W.Frag} {mg : Str → Option Value} {base : Heap}
/-! ### is_pair: isinstance(value, tuple) and len(value) == 2 and is_whole(value[0]) and is_whole(value[1]) -/
def spPair (K : PySem.W.Frag) : Sp := fun vs H Q _ => ∃ x o, vs = [x] ∧ Two K H x o ∧ Q (.bl (pairB o)) H
theorem scPair : FnScope ["value"] ["value"] (defScope tPair) := ⟨rfl, rfl, rfl, by decide +kernel, rfl, by decide +kernel, by decide +kernel⟩
theorem ok_pair {f fW : Addr} {fd fdW : FuncData} (F : Fun K "is_pair" "is_pair" tPair f fd) (T : Txt K mg) (GW : FnOk P w K mg base CX0 1 fW fdW ["value"] (spWhole K)) (kW : PySem.W.keepIn K (.ref fW) = true) (bW : Binds K fdW ["value"] []) (gW : mg "is_whole" = some (.ref fW)) :
    FnOk P w K mg base CX0 2 f fd ["value"] (spPair K) := by
  refine F.ok scPair (fun vs H Q E h => ?_) (fun cdv A outer s H vs Q E hr h => ?_)
  · obtain ⟨x, o, rfl, _⟩ := h
    rfl
  · obtain ⟨x, o, rfl, it, k⟩ := h
    refine ⟨_, pss_one (ps_ret (pe_and (pe_callB call_isi (by rfl) T.isi (by decide +kernel) (pa_cons (pv 0) (pa_cons (pe_bltn (v := .ty "tuple") (by rfl) T.tuple (by decide +kernel) rfl) pa_nil)))
      (pe_and (pe_cmpR op_eq (pe_callB call_len_seq (by rfl) T.len PySem.boot_len (pa_cons (pv 0) pa_nil)) pe_int (nomark _))
      (pe_and (pe_call GW hr rfl gW kW bW .nil pass0 (pa_cons (pe_ix ix_tup (pv 0) pe_int (fun _ _ => rfl)) pa_nil))
      (pe_one (pe_call GW hr rfl gW kW bW .nil pass0 (pa_cons (pe_ix ix_tup (pv 0) pe_int (fun _ _ => rfl)) pa_nil))))))), ?_⟩
    cases it with
    | @no _ n t m =>
      simp only [List.mem_cons, List.not_mem_nil, or_false] at m
      rcases m with rfl | rfl | rfl | rfl | rfl | rfl
      all_goals
        exact ⟨_, rfl, _, _, _, _, _, rfl, ClsV.ty _, t, kit_ty (r := false) (by decide +kernel), _, rfl, iteF k⟩
    | @tup a xs e l =>
      refine ⟨_, rfl, _, _, _, _, _, rfl, ClsV.ty _, .base (.tup e), kit_ty (r := true) (by decide +kernel), _, rfl, iteT ?_⟩
      refine ⟨_, rfl, a, xs, rfl, .inr (SqT.of e), rfl, _, rfl, ?_⟩
      have ne : ¬ V.int (xs.length : Int) = V.int 2 := by
        intro z
        have z2 := V.int.inj z
        omega
      rw [decide_eq_false ne]
      exact iteF k
    | @two a x y ox oy e hx hy =>
      refine ⟨_, rfl, _, _, _, _, _, rfl, ClsV.ty _, .base (.tup e), kit_ty (r := true) (by decide +kernel), _, rfl, iteT ?_⟩
      refine ⟨_, rfl, a, [x, y], rfl, .inr (SqT.of e), rfl, _, rfl, iteT ?_⟩
      refine ⟨_, rfl, a, [x, y], 0, x, rfl, rfl, SqT.of e, atI_nat (j := 0) rfl, x, ox, rfl, hx, _, rfl, ?_⟩
      cases ox with
      | none => exact iteF k
      | some i =>
        refine iteT ⟨_, rfl, a, [x, y], 1, y, rfl, rfl, SqT.of e, atI_nat (j := 1) rfl, y, oy, rfl, hy, ?_⟩
        cases oy with
        | none => exact k
        | some j => exact k
end
/-! ### the dice: a list of three ints -/
def Dice (H : Hp) (p : Addr) : Prop := ∃ a b c : Int, H p = some (.lst [.int a, .int b, .int c]) ∧ 0 ≤ a ∧ 0 ≤ b ∧ b < 2147483629
/-- all but the dice at p is as it was -/
def But (p : Addr) (H H' : Hp) : Prop := ∀ q, q ≠ p → H' q = H q
structure Bl (mg : Str → Option Value) : Prop where
  int : mg "int" = none
  abs : mg "abs" = none
  max : mg "max" = none
  range : mg "range" = none
  list : mg "list" = none
  len : mg "len" = none
section
variable {P : Program} {w : World} {K : PySem.W.Frag} {mg : Str → Option Value} {base : Heap}
def spDice : Sp := fun vs H Q _ => ∃ n : Int, vs = [.int n] ∧ ∀ p H', H p = none → Dice H' p → But p H H' → Q (.ref p) H'
theorem scDice : FnScope ["_law_cell", "_law_number"] ["_law_cell"] (defScope tDice) := ⟨rfl, rfl, rfl, by decide +kernel, rfl, by decide +kernel, by decide +kernel⟩
theorem ok_dice {f : Addr} {fd : FuncData} (F : Fun K "_law_dice" "_law_dice" tDice f fd) (T : Bl mg) : FnOk P w K mg base CX0 1 f fd ["_law_cell"] spDice := by
  refine F.ok scDice (fun vs H Q E h => ?_) (fun cdv A outer s H vs Q E hr h => ?_)
  · obtain ⟨n, rfl, _⟩ := h
    rfl
  · obtain ⟨n, rfl, k⟩ := h
    refine ⟨_, pss_cons (ps_set (i := 1) scDice.nd rfl (.inl rfl) (pe_callTy call_int1 (by rfl) T.int (by decide +kernel) (pa_cons (pe_callB call_abs (by rfl) T.abs (by decide +kernel) (pa_cons (pv 0) pa_nil)) pa_nil)))
      (pss_one (ps_ret (pe_lst (pa_cons (pe_callB (call_max2 rfl) (by rfl) T.max (by decide +kernel) (pa_cons pe_int (pa_cons (pe_op op_sub (pv 1) (pe_op op_pow pe_int pe_int)) pa_nil)))
        (pa_cons (pe_op op_mod (pe_callTy call_int1 (by rfl) T.int (by decide +kernel) (pa_cons (pe_op op_add (pe_op op_mul (pv 1) pe_int) (pe_callTy call_int1 (by rfl) T.int (by decide +kernel) (pa_cons (pe_cmpR op_lt (pv 0) pe_int (nomark _)) pa_nil))) pa_nil)) pe_int)
        (pa_cons pe_int pa_nil)))))), ?_⟩
    refine ⟨_, rfl, _, rfl, .inl ⟨_, rfl, ?_⟩⟩
    refine ⟨_, rfl, _, _, rfl, rfl, ⟨by decide, by decide, by decide⟩, _, _, rfl, rfl, _, _, rfl, ?_⟩
    refine ⟨_, rfl, _, _, rfl, rfl, .inr ⟨by decide, by decide⟩, _, rfl, _, _, rfl, rfl, .inr ⟨_, rfl, _, _, rfl, rfl, .inl ⟨_, rfl, _, _, rfl, rfl, (by show (0 : Int) < 2147483629; decide), ?_⟩⟩⟩
    refine ⟨(by show 3 ≤ sizeLine; decide), fun p hp => k p _ hp ⟨_, _, _, upd_same, ?_, ?_, ?_⟩ fun q hq => upd_ne hq⟩
    · split <;> omega
    · exact Int.emod_nonneg _ (by decide)
    · exact Int.emod_lt_of_pos _ (by decide)
def spNext : Sp := fun vs H Q _ => ∃ (p : Addr) (m : Int), vs = [.ref p, .int m] ∧ 0 < m ∧ m < 1073741824 ∧ Dice H p ∧ ∀ r H', 0 ≤ r → r < m → Dice H' p → But p H H' → Q (.int r) H'
theorem scNext : FnScope ["_law_dice_here", "_law_many", "_law_found", "_law_mixed"] ["_law_dice_here", "_law_many"] (defScope tNextD) := ⟨rfl, rfl, rfl, by decide +kernel, rfl, by decide +kernel, by decide +kernel⟩
theorem ok_next {f : Addr} {fd : FuncData} (F : Fun K "_law_next" "_law_next" tNextD f fd) (T : Bl mg) : FnOk P w K mg base CX0 1 f fd ["_law_dice_here", "_law_many"] spNext := by
  refine F.ok scNext (fun vs H Q E h => ?_) (fun cdv A outer s H vs Q E hr h => ?_)
  · obtain ⟨p, m, rfl, _⟩ := h
    rfl
  · obtain ⟨p, m, rfl, m0, m1, ⟨a, b, c, e, a0, b0, b1⟩, k⟩ := h
    have m2 : m ≠ 0 := by omega
    refine ⟨_, pss_cons (ps_if (pt_cmpR op_gt (pe_ix ix_list (pv 0) pe_int (fun _ _ => rfl)) pe_int (nomark _))
        (pss_cons (ps_set (i := 2) scNext.nd rfl (.inl rfl) (pe_op op_modN (pe_callTy call_int1 (by rfl) T.int (by decide +kernel) (pa_cons (pe_ix ix_list (pv 0) pe_int (fun _ _ => rfl)) pa_nil)) (pv 1)))
        (pss_cons (ps_asg (pe_op op_fdivN (pe_ix ix_list (pv 0) pe_int (fun _ _ => rfl)) (pv 1)) (pg_sub (pv 0) pe_int set_list))
        (pss_one (ps_ret (pv 2))))) pss_nil)
      (pss_cons (ps_asg (pe_op op_add (pe_ix ix_list (pv 0) pe_int (fun _ _ => rfl)) pe_int) (pg_sub (pv 0) pe_int set_list))
      (pss_cons (ps_set (i := 3) scNext.nd rfl (.inl rfl) (pe_op op_mod (pe_callTy call_int1 (by rfl) T.int (by decide +kernel) (pa_cons (pe_op op_mul (pe_op op_add (pe_ix ix_list (pv 0) pe_int (fun _ _ => rfl)) pe_int) (pe_op op_add (pe_op op_mul (pe_ix ix_list (pv 0) pe_int (fun _ _ => rfl)) pe_int) pe_int)) pa_nil)) pe_int))
      (pss_cons (ps_set (i := 3) scNext.nd rfl (.inl rfl) (pe_op op_mod (pe_callTy call_int1 (by rfl) T.int (by decide +kernel) (pa_cons (pe_op op_add (pe_op op_mul (pv 3) (pv 3)) (pe_op op_mul (pe_ix ix_list (pv 0) pe_int (fun _ _ => rfl)) pe_int)) pa_nil)) pe_int))
      (pss_one (ps_ret (pe_op op_modN (pe_callTy call_int1 (by rfl) T.int (by decide +kernel) (pa_cons (pe_op op_fdiv (pv 3) pe_int) pa_nil)) (pv 1))))))), ?_⟩
    refine ⟨_, rfl, p, _, 0, _, rfl, rfl, SqL.of e, atI_nat (j := 0) rfl, _, _, rfl, rfl, _, rfl, ite2 (fun c0 => ?_) (fun c0 => ?_)⟩
    · refine ⟨_, rfl, p, _, 0, _, rfl, rfl, SqL.of e, atI_nat (j := 0) rfl, .inl ⟨_, rfl, _, rfl, _, _, rfl, rfl, m2, ?_⟩⟩
      refine ⟨_, rfl, p, _, 0, _, rfl, rfl, SqL.of e, atI_nat (j := 0) rfl, _, rfl, _, _, rfl, rfl, ⟨m2, by omega⟩, _, rfl, p, _, _, 0, rfl, rfl, e, rfl, ?_⟩
      refine ⟨_, rfl, k _ _ (Int.fmod_nonneg_of_pos _ m0) (Int.fmod_lt_of_pos _ m0) ⟨_, b, c, upd_same, Int.fdiv_nonneg a0 (by omega), b0, b1⟩ fun q hq => upd_ne hq⟩
    · refine ⟨_, rfl, p, _, 2, _, rfl, rfl, SqL.of e, atI_nat (j := 2) rfl, _, _, rfl, rfl, _, rfl, p, _, _, 2, rfl, rfl, e, rfl, ?_⟩
      have e2 : (upd H p (.lst [.int a, .int b, .int (c + 1)])) p = some (.lst [.int a, .int b, .int (c + 1)]) := upd_same
      refine ⟨_, rfl, p, _, 1, _, rfl, rfl, SqL.of e2, atI_nat (j := 1) rfl, _, _, rfl, rfl, ?_⟩
      refine ⟨_, rfl, p, _, 2, _, rfl, rfl, SqL.of e2, atI_nat (j := 2) rfl, _, _, rfl, rfl, .inr ⟨by decide, by decide⟩, _, _, rfl, rfl, _, _, rfl, rfl, .inl ⟨by omega, by omega⟩, .inl ⟨_, rfl, _, _, rfl, rfl, (by show (0 : Int) < 2147483587; decide), ?_⟩⟩
      have x0 : 0 ≤ ((b + 40503) * ((c + 1) * 69621 + 1013)) % 2147483587 := Int.emod_nonneg _ (by decide)
      have x1 : ((b + 40503) * ((c + 1) * 69621 + 1013)) % 2147483587 < 2147483587 := Int.emod_lt_of_pos _ (by decide)
      refine ⟨_, rfl, _, rfl, _, _, rfl, rfl, .inl ⟨by omega, by omega⟩, ?_⟩
      refine ⟨_, rfl, p, _, 2, _, rfl, rfl, SqL.of e2, atI_nat (j := 2) rfl, _, _, rfl, rfl, .inr ⟨by decide, by decide⟩, _, _, rfl, rfl, .inl ⟨_, rfl, _, _, rfl, rfl, (by show (0 : Int) < 2147483579; decide), ?_⟩⟩
      refine ⟨_, rfl, _, _, rfl, rfl, ⟨by decide, by decide⟩, .inl ⟨_, rfl, _, rfl, _, _, rfl, rfl, m2, ?_⟩⟩
      exact k _ _ (Int.fmod_nonneg_of_pos _ m0) (Int.fmod_lt_of_pos _ m0) ⟨a, b, _, e2, a0, b0, b1⟩ fun q hq => upd_ne hq
/-! ### draws -/
def spDraw : Sp := fun vs H Q _ => ∃ p : Addr, vs = [.ref p] ∧ Dice H p ∧ ∀ r H', -(10 ^ 18) < r → r < 10 ^ 18 → Dice H' p → But p H H' → Q (.int r) H'
theorem But.trans {p : Addr} {H H1 H2 : Hp} (a : But p H H1) (b : But p H1 H2) : But p H H2 := fun q hq => (b q hq).trans (a q hq)
theorem scGreat : FnScope ["_law_dice_here", "_law_number", "_law_turn"] ["_law_dice_here"] (defScope tGreat) := ⟨rfl, rfl, rfl, by decide +kernel, rfl, by decide +kernel, by decide +kernel⟩
theorem ok_great {f fX : Addr} {fd fdX : FuncData} (F : Fun K "_law_great" "_law_great" tGreat f fd) (T : Bl mg) (GX : FnOk P w K mg base CX0 1 fX fdX ["_law_dice_here", "_law_many"] spNext) (kX : PySem.W.keepIn K (.ref fX) = true) (bX : Binds K fdX ["_law_dice_here", "_law_many"] []) (gX : mg "_law_next" = some (.ref fX)) :
    FnOk P w K mg base CX0 2 f fd ["_law_dice_here"] spDraw := by
  refine F.ok scGreat (fun vs H Q E h => ?_) (fun cdv A outer s H vs Q E hr h => ?_)
  · obtain ⟨p, rfl, _⟩ := h
    rfl
  · obtain ⟨p, rfl, d, k⟩ := h
    refine ⟨_, pss_cons (ps_set (i := 1) scGreat.nd rfl (.inl rfl) pe_int)
      (pss_cons (ps_for PassesOwn.never rfl (pi_range1 rfl T.range (pa_cons pe_int pa_nil)) (pg_name (i := 2) scGreat.nd rfl (.inl rfl))
        (pss_one (ps_set (i := 1) scGreat.nd rfl (.inl rfl) (pe_op op_add (pe_op op_mul (pv 1) (pe_op op_pow pe_int pe_int)) (pe_call GX hr rfl gX kX bX .nil pass0 (pa_cons (pv 0) (pa_cons (pe_op op_pow pe_int pe_int) pa_nil)))))))
      (pss_one (ps_ret (pe_ifExp (pt_cmpR op_eq (pe_call GX hr rfl gX kX bX .nil pass0 (pa_cons (pv 0) (pa_cons pe_int pa_nil))) pe_int (nomark _)) (pe_un un_neg (pv 1)) (pv 1))))), ?_⟩
    refine ⟨3, rfl, by decide, by decide, for_range (n := 3) (fun i σ H' => ∃ (n : Int) (v : Option V), σ = [some (.ref p), some (.int n), v] ∧ 0 ≤ n ∧ n < (10 ^ 6) ^ i ∧ Dice H' p ∧ But p H H')
      ⟨0, none, rfl, by decide, by decide, d, fun _ _ => rfl⟩ ?_ ?_⟩
    · rintro i σ H1 hi ⟨n, v, rfl, n0, n1, d1, u1⟩
      refine ⟨_, rfl, _, _, rfl, rfl, ⟨by decide, by decide, by decide⟩, _, _, rfl, rfl, .inr ⟨by decide, by decide⟩, _, rfl, _, _, rfl, rfl, ⟨by decide, by decide, by decide⟩, p, 10 ^ 6, rfl, by decide, by decide, d1, fun r H2 r0 r1 d2 u2 => ?_⟩
      refine ⟨_, _, rfl, rfl, ?_⟩
      refine ⟨_, _, rfl, ?_, ?_, d2, u1.trans u2⟩
      · have : 0 ≤ n * 10 ^ 6 := Int.mul_nonneg n0 (by decide)
        have e : ((10 : Int) ^ (6 : Int).toNat) = 10 ^ 6 := rfl
        rw [e]
        omega
      · have e : ((10 : Int) ^ (6 : Int).toNat) = 10 ^ 6 := rfl
        have e4 : ((10 : Int) ^ 6) ^ (i + 1) = (10 ^ 6) ^ i * 10 ^ 6 := Int.pow_succ _ _
        rw [e, e4]
        have n2 : n + 1 ≤ (10 ^ 6) ^ i := n1
        have n3 : (n + 1) * 10 ^ 6 ≤ (10 ^ 6) ^ i * 10 ^ 6 := Int.mul_le_mul_of_nonneg_right n2 (by decide)
        rw [Int.add_mul, Int.one_mul] at n3
        omega
    · rintro σ H1 ⟨n, v, rfl, n0, n1, d1, u1⟩
      have e3 : ((10 : Int) ^ 6) ^ 3 = 10 ^ 18 := by decide
      rw [e3] at n1
      refine ⟨_, rfl, p, 2, rfl, by decide, by decide, d1, fun r H2 r0 r1 d2 u2 => ?_⟩
      refine ⟨rfl, _, rfl, ite2 (fun _ => ?_) (fun _ => ?_)⟩
      · exact ⟨_, rfl, _, rfl, k _ _ (by omega) (by omega) d2 (u1.trans u2)⟩
      · exact ⟨_, rfl, k _ _ (by omega) (by omega) d2 (u1.trans u2)⟩
theorem scWholeD : FnScope ["_law_dice_here", "_law_way"] ["_law_dice_here"] (defScope tWholeD) := ⟨rfl, rfl, rfl, by decide +kernel, rfl, by decide +kernel, by decide +kernel⟩
theorem ok_wholeD {f fX fG : Addr} {fd fdX fdG : FuncData} (F : Fun K "_law_whole" "_law_whole" tWholeD f fd) (GX : FnOk P w K mg base CX0 1 fX fdX ["_law_dice_here", "_law_many"] spNext) (kX : PySem.W.keepIn K (.ref fX) = true) (bX : Binds K fdX ["_law_dice_here", "_law_many"] []) (gX : mg "_law_next" = some (.ref fX))
    (GG : FnOk P w K mg base CX0 2 fG fdG ["_law_dice_here"] spDraw) (kG : PySem.W.keepIn K (.ref fG) = true) (bG : Binds K fdG ["_law_dice_here"] []) (gG : mg "_law_great" = some (.ref fG)) :
    FnOk P w K mg base CX0 3 f fd ["_law_dice_here"] spDraw := by
  refine F.ok scWholeD (fun vs H Q E h => ?_) (fun cdv A outer s H vs Q E hr h => ?_)
  · obtain ⟨p, rfl, _⟩ := h
    rfl
  · obtain ⟨p, rfl, d, k⟩ := h
    have hr1 : Room 1 _ := hr.mono (by decide)
    refine ⟨_, pss_cons (ps_set (i := 1) scWholeD.nd rfl (.inl rfl) (pe_call GX hr1 rfl gX kX bX .nil pass0 (pa_cons (pv 0) (pa_cons pe_int pa_nil))))
      (pss_cons (ps_if (pt_cmpR op_lt (pv 1) pe_int (nomark _)) (pss_one (ps_ret (pe_op op_sub (pe_call GX hr1 rfl gX kX bX .nil pass0 (pa_cons (pv 0) (pa_cons pe_int pa_nil))) pe_int))) pss_nil)
      (pss_one (ps_ret (pe_ifExp (pt_cmpR op_eq (pv 1) pe_int (nomark _)) (pe_op op_sub (pe_call GX hr1 rfl gX kX bX .nil pass0 (pa_cons (pv 0) (pa_cons pe_int pa_nil))) pe_int) (pe_call GG hr rfl gG kG bG .nil pass0 (pa_cons (pv 0) pa_nil)))))), ?_⟩
    refine ⟨_, rfl, p, 4, rfl, by decide, by decide, d, fun r H1 r0 r1 d1 u1 => ?_⟩
    refine ⟨_, rfl, _, _, rfl, rfl, _, rfl, ite2 (fun _ => ?_) (fun _ => ?_)⟩
    · refine ⟨_, rfl, p, 13, rfl, by decide, by decide, d1, fun r2 H2 r3 r4 d2 u2 => ?_⟩
      exact ⟨_, _, rfl, rfl, k _ _ (by omega) (by omega) d2 (u1.trans u2)⟩
    · refine ⟨_, rfl, rfl, _, rfl, ite2 (fun _ => ?_) (fun _ => ?_)⟩
      · refine ⟨_, rfl, p, 2001, rfl, by decide, by decide, d1, fun r2 H2 r3 r4 d2 u2 => ?_⟩
        exact ⟨_, _, rfl, rfl, k _ _ (by omega) (by omega) d2 (u1.trans u2)⟩
      · exact ⟨_, rfl, p, rfl, d1, fun r2 H2 r3 r4 d2 u2 => k _ _ r3 r4 d2 (u1.trans u2)⟩
end
end K11
namespace K11
open PySem L2
open L2.My
open Met
/-! ### bounds by powers of two -/
def B (n : Nat) (i : Int) : Prop := i.natAbs < 2 ^ n
theorem B.up {n m : Nat} {i : Int} (h : B n i) (l : n ≤ m := by omega) : B m i := Nat.lt_of_lt_of_le h (Nat.pow_le_pow_right (by decide) l)
theorem B.le {n : Nat} {i j : Int} (h : B n i) (l : j.natAbs ≤ i.natAbs) : B n j := Nat.lt_of_le_of_lt l h
theorem B.add {n : Nat} {i j : Int} (h : B n i) (g : B n j) : B (n + 1) (i + j) := by
  unfold B at *
  rw [Nat.pow_succ]
  generalize 2 ^ n = t at *
  omega
theorem B.sub {n : Nat} {i j : Int} (h : B n i) (g : B n j) : B (n + 1) (i - j) := by
  unfold B at *
  rw [Nat.pow_succ]
  generalize 2 ^ n = t at *
  omega
theorem B.neg {n : Nat} {i : Int} (h : B n i) : B n (-i) := by
  unfold B at *
  omega
theorem B.mul {n m : Nat} {i j : Int} (h : B n i) (g : B m j) : B (n + m) (i * j) := by
  unfold B at *
  rw [Int.natAbs_mul, Nat.pow_add]
  exact Nat.mul_lt_mul'' h g
theorem B.one {n : Nat} (h : 1 ≤ n := by omega) : B n 1 := by
  have : 2 ^ 1 ≤ 2 ^ n := Nat.pow_le_pow_right (by decide) h
  unfold B
  show 1 < 2 ^ n
  omega
theorem B.div {n : Nat} {i j : Int} (h : B n i) : B n (i / j) := B.le h (Int.natAbs_ediv_le_natAbs _ _)
theorem B.fdiv {n : Nat} {i j : Int} (h : B n i) (g : B n j) (nz : j ≠ 0) : B (n + 1) (i.fdiv j) := by
  have e := fdiv_split i j
  have l := fmod_less (a := i) nz
  have q : (i.fdiv j).natAbs * j.natAbs ≤ i.natAbs + j.natAbs := by
    rw [← Int.natAbs_mul]
    omega
  have j1 : 1 ≤ j.natAbs := by omega
  have q2 : (i.fdiv j).natAbs * 1 ≤ (i.fdiv j).natAbs * j.natAbs := Nat.mul_le_mul_left _ j1
  unfold B at *
  rw [Nat.pow_succ]
  generalize 2 ^ n = t at *
  omega
theorem B.lim {n C : Nat} {i : Int} (h : i.natAbs ≤ C) (c : C < 2 ^ n) : B n i := Nat.lt_of_le_of_lt h c
/-- // by any divisor but 0 -/
def CDivV (_ j : Int) : Prop := j ≠ 0 ∧ j.natAbs.log2 < 9000
theorem op_fdivV {X : Cx} : OpR X (PySem.binaryOp .FloorDiv) (rI CDivV fun i j => .int (i.fdiv j)) := opI fun _ _ _ _ _ _ _ hc q => PyProof.Rows.floordiv_int hc.1 q (.inl (PyProof.noPylong_of_log2 hc.2))
theorem B.log {n : Nat} {j : Int} (h : B n j) (l : n ≤ 9000) (p : 0 < n) : j.natAbs.log2 < 9000 := by
  have := PySem.Flt.log2_lt_of p h
  omega
theorem B.dv {n : Nat} {i j : Int} (h : B n j) (nz : j ≠ 0) (l : n ≤ 9000 := by decide) (p : 0 < n := by decide) : CDivV i j := ⟨nz, h.log l p⟩
theorem B.dw {n : Nat} {i j : Int} (h : B n j) (nz : 0 < j) (l : n ≤ 9000 := by decide) (p : 0 < n := by decide) : CDivW i j := ⟨nz, h.log l p⟩
theorem B.ml {n m : Nat} {i j : Int} (h : B n i) (g : B m j) (p : 0 < n := by decide) (q : 0 < m := by decide) (l : n + m ≤ 1000000 := by decide) : CMulW i j := wide_mul h g p q l
/-! ### tuples and lists of ints -/
def Ints (H : Hp) (a : Addr) (xs : List Int) : Prop := H a = some (.tup (xs.map V.int))
def PairAt (H : Hp) (a : Addr) (e : Pr) : Prop := H a = some (.tup [.int e.1, .int e.2])
theorem int_at {xs : List Int} {i : Nat} {v : V} (h : (xs.map V.int)[i]? = some v) : ∃ n, v = .int n ∧ xs[i]? = some n := by
  rw [List.getElem?_map] at h
  cases e : xs[i]? with
  | none =>
    rw [e] at h
    cases h
  | some n =>
    rw [e] at h
    exact ⟨n, (Option.some.inj h).symm, rfl⟩
def Acc (H0 : Hp) (D : Addr) (xs : List V) (H : Hp) : Prop := Same H0 H ∧ H0 D = none ∧ H D = some (.lst xs)
theorem grow {H : Hp} {p : Addr} {o : HO} (hp : H p = none) : Same H (upd H p o) := fun b u e => by rw [upd_ne (ne_of_none e hp)]; exact e
theorem Acc.start {H0 : Hp} {D : Addr} (hD : H0 D = none) : Acc H0 D [] (upd H0 D (.lst [])) := ⟨grow hD, hD, upd_same⟩
theorem Acc.put {H0 H : Hp} {D : Addr} {xs ys : List V} (a : Acc H0 D xs H) : Acc H0 D ys (upd H D (.lst ys)) :=
  ⟨fun q o e => by rw [upd_ne (ne_of_none e a.2.1)]; exact a.1 q o e, a.2.1, upd_same⟩
theorem Acc.on {H0 H H' : Hp} {D : Addr} {xs : List V} (a : Acc H0 D xs H) (s : Same H H') : Acc H0 D xs H' := ⟨fun q o e => s _ _ (a.1 q o e), a.2.1, s _ _ a.2.2⟩
theorem take_step {α : Type} {xs : List α} {i : Nat} {x : α} (h : xs[i]? = some x) : xs.take (i + 1) = xs.take i ++ [x] := by
  rw [List.take_add_one, h]
  rfl
/-- a def as its callers see it -/
structure Dn (P : Program) (w : World) (K : PySem.W.Frag) (mg : Str → Option Value) (base : Heap) (CX : CXT) (x : Str) (ps : List Str) (k : Nat) (sp : Sp) (f : Addr) (fd : FuncData) : Prop where
  G : FnOk P w K mg base CX k f fd ps sp
  kp : PySem.W.keepIn K (.ref f) = true
  b : Binds K fd ps []
  g : mg x = some (.ref f)
theorem two_line : (2 : Nat) ≤ sizeLine := by decide
theorem n_line {xs : List V} (h : xs.length ≤ 1000 := by simp) : xs.length ≤ sizeLine := Nat.le_trans h (by decide)
theorem mk_at {H : Hp} {p : Addr} {o : HO} (n : H p = none) : ∃ H', upd H p o = H' ∧ Same H H' ∧ H' p = some o := ⟨_, rfl, grow n, upd_same⟩
theorem PairAt.same {H H' : Hp} {a : Addr} {e : Pr} (h : PairAt H a e) (s : Same H H') : PairAt H' a e := s _ _ h
def TriAt (H : Hp) (a : Addr) (t : Tri) : Prop := H a = some (.tup [.int t.g, .int t.x, .int t.y])
/-! ### divisor_of -/
def spDiv : Sp := fun vs H Q _ => ∃ a b : Int, vs = [.int a, .int b] ∧ B 400 a ∧ B 400 b ∧ (a ≠ 0 ∨ b ≠ 0) ∧ ∀ t H', Same H H' → TriAt H' t (divOf a b) → Q (.ref t) H'
theorem scDiv : FnScope ["one", "other", "old", "new", "times", "before", "now", "part"] ["one", "other"] (defScope tDiv) := ⟨rfl, rfl, rfl, by decide +kernel, rfl, by decide +kernel, by decide +kernel⟩
structure DTxt (mg : Str → Option Value) : Prop where
  zip : mg "zip" = none
  tuple : mg "tuple" = none
section
variable {P : Program} {w : World} {K : PySem.W.Frag} {mg : Str → Option Value} {base : Heap}
theorem lim403 {a b : Int} (ha : B 400 a) (hb : B 400 b) : a.natAbs + 2 * b.natAbs + 1 < 2 ^ 403 := by
  unfold B at ha hb
  have e : (2 : Nat) ^ 403 = 8 * 2 ^ 400 := by
    rw [show (403 : Nat) = 3 + 400 from rfl, Nat.pow_add]
  rw [e]
  generalize (2 : Nat) ^ 400 = t at *
  omega
theorem ok_div {f : Addr} {fd : FuncData} (F : Fun K "divisor_of" "divisor_of" tDiv f fd) (T : DTxt mg) : FnOk P w K mg base CX0 1 f fd ["one", "other"] spDiv := by
  refine F.ok scDiv (fun vs H Q E h => ?_) (fun cdv A outer s H vs Q E hr h => ?_)
  · obtain ⟨a, b, rfl, _⟩ := h
    rfl
  · obtain ⟨a, b, rfl, ha, hb, nz, k⟩ := h
    have L := lim403 ha hb
    refine ⟨_, pss_cons (ps_par (i := 2) (j := 3) rfl scDiv.nd rfl rfl (by decide) rfl rfl (pa_cons (pe_tup (pa_cons (pv 0) (pa_cons pe_int (pa_cons pe_int pa_nil)))) (pa_cons (pe_tup (pa_cons (pv 1) (pa_cons pe_int (pa_cons pe_int pa_nil)))) pa_nil)) (by rfl))
      (pss_cons (ps_while PassesOwn.never (pt_cmpR op_ne (pe_ix ix_tup (pv 3) pe_int (fun _ _ => rfl)) pe_int (nomark _))
        (pss_cons (ps_set (i := 4) scDiv.nd rfl (.inr rfl) (pe_op op_fdivV (pe_ix ix_tup (pv 2) pe_int (fun _ _ => rfl)) (pe_ix ix_tup (pv 3) pe_int (fun _ _ => rfl))))
        (pss_one (ps_par (i := 2) (j := 3) rfl scDiv.nd rfl rfl (by decide) rfl rfl (pa_cons (pv 3) (pa_cons (pe_callTy call_tuple_of (by rfl) T.tuple (by decide +kernel) (pa_cons
          (pe_lc (own := [("before", 5), ("now", 6)]) (g := gTup K 2 (gCons (gName 5) (gCons (gName 6) gNil))) (tt := tYes) (by rfl) scDiv.nd (RZ.pi_zipA rfl T.zip (pa_cons (pv 2) (pa_cons (pv 3) pa_nil)))
            (blkOk_by (own := [("before", 5), ("now", 6)]) (N := ["one", "other", "old", "new", "times", "before", "now", "part"]) (sc := defScope tDiv) (by decide +kernel))
            (fun _ _ _ _ _ => pg_tup rfl (pgs_cons (pg_name (i := 5) scDiv.nd rfl (.inl rfl)) (pgs_cons (pg_name (i := 6) scDiv.nd rfl (.inl rfl)) pgs_nil))) (fun _ _ _ _ _ => pts_nil) (fun _ _ _ _ _ => pe_op op_sub (pv 5) (pe_op op_mulW (pv 4) (pv 6)))) pa_nil)) pa_nil)) (by rfl)))))
      (pss_one (ps_ret (pe_ifExp (pt_cmpR op_gt (pe_ix ix_tup (pv 2) pe_int (fun _ _ => rfl)) pe_int (nomark _)) (pv 2) (pe_callTy call_tuple_of (by rfl) T.tuple (by decide +kernel) (pa_cons
          (pe_lc (own := [("part", 7)]) (g := gName 7) (tt := tYes) (by rfl) scDiv.nd (pi_tup (pv 2)) (blkOk_by (own := [("part", 7)]) (N := ["one", "other", "old", "new", "times", "before", "now", "part"]) (sc := defScope tDiv) (by decide +kernel))
            (fun _ _ _ _ _ => pg_name (i := 7) scDiv.nd rfl (Or.inl rfl)) (fun _ _ _ _ _ => pts_nil) (fun _ _ _ _ _ => pe_un un_neg (pv 7))) pa_nil)))))), ?_⟩
    have line : (1000 : Nat) < sizeLine := by decide
    refine ⟨_, rfl, n_line, fun p1 n1 => ?_⟩
    obtain ⟨H1, z1, s1, e1⟩ := mk_at (o := .tup [V.int a, V.int 1, V.int 0]) n1
    rw [z1]
    refine ⟨_, rfl, n_line, fun p2 n2 => ?_⟩
    obtain ⟨H2, z2, s2, e2⟩ := mk_at (o := .tup [V.int b, V.int 0, V.int 1]) n2
    rw [z2]
    refine ⟨_, _, rfl, ?_⟩
    obtain ⟨W, hW⟩ : ∃ W : Nat → L2.St → Hp → Prop, W = fun m σ H' => ∃ (po pn : Addr) (o n : Tri) (x4 x5 x6 x7 : Option V), σ = [some (.int a), some (.int b), some (.ref po), some (.ref pn), x4, x5, x6, x7] ∧ Same H H' ∧ TriAt H' po o ∧ TriAt H' pn n ∧ J a b o n ∧
      m = n.g.natAbs ∧ divL (m + 1) o n = divL (b.natAbs + 1) ⟨a, 1, 0⟩ ⟨b, 0, 1⟩ := ⟨_, rfl⟩
    refine ⟨W, ⟨b.natAbs, by rw [hW]; exact ⟨p1, p2, ⟨a, 1, 0⟩, ⟨b, 0, 1⟩, none, none, none, none, rfl, s1.trans s2, s2 _ _ e1, e2, .start, rfl, rfl⟩⟩, ?_⟩
    intro m σ H3 w3
    rw [hW] at w3
    obtain ⟨po, pn, o, n, x4, x5, x6, x7, rfl, s3, eo, en, j, rfl, ed⟩ := w3
    obtain ⟨lo, ln⟩ := j.lim
    refine ⟨_, rfl, pn, _, 0, _, rfl, rfl, SqT.of en, atI_nat (j := 0) rfl, rfl, _, rfl, ?_⟩
    have line : (1000 : Nat) < sizeLine := by decide
    by_cases c : n.g = 0
    · have ce : (!decide (V.int n.g = V.int 0)) = false := by simp [c]
      rw [ce]
      refine iteF ?_
      have dz : divL (n.g.natAbs + 1) o n = o := divL_end c
      rw [dz] at ed
      have eD : divOf a b = posT o := by
        unfold divOf
        rw [← ed]
      refine ⟨_, rfl, po, _, 0, _, rfl, rfl, SqT.of eo, atI_nat (j := 0) rfl, _, _, rfl, rfl, _, rfl, ?_⟩
      by_cases cp : 0 < o.g
      · rw [decide_eq_true cp]
        refine iteT ⟨_, rfl, k _ _ s3 ?_⟩
        rw [eD]
        unfold posT
        rw [if_pos cp]
        exact eo
      · rw [decide_eq_false cp]
        refine iteF ⟨_, rfl, po, rfl, ⟨_, SqT.of eo⟩, fun D hD => lc_tup (xs := [V.int o.g, V.int o.x, V.int o.y]) (fun i H' => Acc H3 D (([-o.g, -o.x, -o.y].take i).map V.int) H') (Acc.start hD) (fun i H' _ q => SqT.of (q.1 _ _ eo)) ?_ ?_⟩
        · intro i y H4 hy q
          obtain ⟨u, rfl, hu⟩ := int_at (xs := [o.g, o.x, o.y]) (show ([o.g, o.x, o.y].map V.int)[i]? = some y from hy)
          have hv : [-o.g, -o.x, -o.y][i]? = some (-u) := by
            rw [show [-o.g, -o.x, -o.y] = [o.g, o.x, o.y].map (fun z => -z) from rfl, List.getElem?_map, hu]
            rfl
          refine ⟨rfl, _, rfl, _, rfl, _, q.2.2, ?_, ?_⟩
          · have := List.length_take_le i [-o.g, -o.x, -o.y]
            simp
            omega
          · rw [take_step hv, List.map_append]
            exact q.put
        · intro H4 q
          refine ⟨D, _, rfl, .inl ⟨SqL.of q.2.2, fun t nt => k _ _ (s3.trans (q.1.trans (grow nt))) ?_⟩⟩
          rw [eD]
          unfold posT
          rw [if_neg cp]
          exact upd_same
    · have ce : (!decide (V.int n.g = V.int 0)) = true := by simp [c]
      rw [ce]
      refine iteT ⟨fun σ' H' => ∃ m', m' < n.g.natAbs ∧ W m' σ' H', fun _ _ h => h, ?_⟩
      have bog : B 403 o.g := B.lim lo.g L
      have bng : B 403 n.g := B.lim ln.g L
      have bnx : B 403 n.x := B.lim ln.x L
      have bny : B 403 n.y := B.lim ln.y L
      refine ⟨_, rfl, po, _, 0, _, rfl, rfl, SqT.of eo, atI_nat (j := 0) rfl, _, rfl, pn, _, 0, _, rfl, rfl, SqT.of en, atI_nat (j := 0) rfl, _, _, rfl, rfl, bng.dv c, ?_⟩
      have bt : B 404 (o.g.fdiv n.g) := bog.fdiv bng c
      refine ⟨_, rfl, _, rfl, _, rfl, po, pn, [V.int o.g, V.int o.x, V.int o.y], [V.int n.g, V.int n.x, V.int n.y], rfl, .inr ⟨SqT.of eo, SqT.of en, fun D hD => lc_it (walk_zipT (n := 3) rfl)
        (fun i H' => Acc H3 D (([o.g - o.g.fdiv n.g * n.g, o.x - o.g.fdiv n.g * n.x, o.y - o.g.fdiv n.g * n.y].take i).map V.int) H') (Acc.start hD) (fun i H' _ q => ⟨SqT.of (q.1 _ _ eo), SqT.of (q.1 _ _ en)⟩) ?_ ?_⟩⟩
      · rintro i v H4 H5 hi q ⟨T3, x, y, rfl, nT, rfl, hx, hy⟩
        obtain ⟨u, rfl, hu⟩ := int_at (xs := [o.g, o.x, o.y]) (show ([o.g, o.x, o.y].map V.int)[i]? = some x from hx)
        obtain ⟨u', rfl, hu'⟩ := int_at (xs := [n.g, n.x, n.y]) (show ([n.g, n.x, n.y].map V.int)[i]? = some y from hy)
        have hv : [o.g - o.g.fdiv n.g * n.g, o.x - o.g.fdiv n.g * n.x, o.y - o.g.fdiv n.g * n.y][i]? = some (u - o.g.fdiv n.g * u') := by
          rw [show [o.g - o.g.fdiv n.g * n.g, o.x - o.g.fdiv n.g * n.x, o.y - o.g.fdiv n.g * n.y] = List.zipWith (fun x y => x - o.g.fdiv n.g * y) [o.g, o.x, o.y] [n.g, n.x, n.y] from rfl, List.getElem?_zipWith, hu, hu']
        have bu : B 403 u' := by
          have m := List.mem_of_getElem? hu'
          simp only [List.mem_cons, List.not_mem_nil, or_false] at m
          rcases m with rfl | rfl | rfl
          · exact bng
          · exact bnx
          · exact bny
        obtain ⟨H6, z6, s6, e6⟩ := mk_at (o := .tup [V.int u, V.int u']) nT
        rw [z6]
        refine ⟨T3, _, rfl, SqT.of e6, rfl, _, _, rfl, _, _, rfl, rfl, rfl, _, rfl, _, rfl, _, rfl, _, _, rfl, rfl, bt.ml bu, _, _, rfl, rfl, _, (q.on s6).2.2, ?_, ?_⟩
        · have := List.length_take_le i [o.g - o.g.fdiv n.g * n.g, o.x - o.g.fdiv n.g * n.x, o.y - o.g.fdiv n.g * n.y]
          simp
          omega
        · rw [take_step hv, List.map_append]
          exact (q.on s6).put
      · intro H4 q
        refine ⟨D, _, rfl, .inl ⟨SqL.of q.2.2, fun t nt => ⟨_, _, rfl, (stepD o n).g.natAbs, ?_, ?_⟩⟩⟩
        · rw [step_g]
          exact fmod_less c
        · rw [hW]
          refine ⟨pn, t, n, stepD o n, _, _, _, _, rfl, s3.trans (q.1.trans (grow nt)), (q.1.trans (grow nt)) _ _ en, ?_, j.step c, rfl, ?_⟩
          · unfold stepD
            exact upd_same
          · rw [← ed, divL_next c]
            have l := fmod_less (a := o.g) c
            exact divL_room _ _ _ _ (Nat.lt_succ_self _) (by rw [step_g]; exact l)
end
end K11
namespace K11
open PySem L2
open L2.My
open Met
def oV : Option Int → V
  | none => .non
  | some i => .int i
def BdAt (H : Hp) (a : Addr) (b : Bd) : Prop := H a = some (.tup [.int b.low, oV b.high, .int b.first, oV b.rounds])
theorem BdAt.same {H H' : Hp} {a : Addr} {b : Bd} (h : BdAt H a b) (s : Same H H') : BdAt H' a b := s _ _ h
def LiAt (H : Hp) (a : Addr) (xs : List Int) : Prop := H a = some (.lst (xs.map V.int))
theorem LiAt.same {H H' : Hp} {a : Addr} {b : List Int} (h : LiAt H a b) (s : Same H H') : LiAt H' a b := s _ _ h
/-- sizes of bounds -/
structure BB (n : Nat) (b : Bd) : Prop where
  low : B n b.low
  high : ∀ h, b.high = some h → B n h
  first : B n b.first
  rounds : ∀ h, b.rounds = some h → B n h
section
variable {P : Program} {w : World} {K : PySem.W.Frag} {mg : Str → Option Value} {base : Heap}
/-! ### is_wide, is_wide_place, check_counter, check_bounds: where all is well -/
def wideB (i : Int) : Prop := -(10 ^ 100) < i ∧ i < 10 ^ 100
theorem wide_of {i : Int} (h : B 300 i) : wideB i := by
  unfold B at h
  unfold wideB
  have e : (10 : Int) ^ 100 = ((10 ^ 100 : Nat) : Int) := by norm_cast
  have l : (2 : Nat) ^ 300 ≤ 10 ^ 100 := by decide +kernel
  rw [e]
  generalize (10 : Nat) ^ 100 = t at *
  generalize (2 : Nat) ^ 300 = u at *
  omega
def spWideI (K : PySem.W.Frag) : Sp := fun vs H Q _ => ∃ i, vs = [V.int i] ∧ B 300 i ∧ Q (.bl true) H
theorem scWideI : FnScope ["value"] ["value"] (defScope tWideI) := ⟨rfl, rfl, rfl, by decide +kernel, rfl, by decide +kernel, by decide +kernel⟩
theorem ok_wideI {f fW : Addr} {fd fdW : FuncData} (F : Fun K "is_wide" "is_wide" tWideI f fd) (T : Txt K mg) (dW : Dn P w K mg base CX0 "is_whole" ["value"] 1 (spWhole K) fW fdW) : FnOk P w K mg base CX0 2 f fd ["value"] (spWideI K) := by
  obtain ⟨tl, long⟩ := T.wide
  refine F.ok scWideI (fun vs H Q E h => ?_) (fun cdv A outer s H vs Q E hr h => ?_)
  · obtain ⟨i, rfl, _⟩ := h
    rfl
  · obtain ⟨i, rfl, hb, k⟩ := h
    obtain ⟨w1, w2⟩ := wide_of hb
    refine ⟨_, pss_one (ps_ret (pe_and (pe_call dW.G hr rfl dW.g dW.kp dW.b .nil pass0 (pa_cons (pv 0) pa_nil))
      (pe_one (pe_chain op_lt op_lt (pe_un un_neg (pe_glob (v := .int (10 ^ 100)) rfl long ⟨_, rfl⟩)) (pv 0) (pe_glob (v := .int (10 ^ 100)) rfl long ⟨_, rfl⟩))))), ?_⟩
    refine ⟨_, rfl, _, _, rfl, .int i, _, rfl, iteT ⟨_, rfl, _, rfl, _, _, rfl, rfl, _, rfl, ?_⟩⟩
    rw [decide_eq_true w1]
    have kk : Q (.bl (decide (i < 10 ^ 100))) H := by
      rw [decide_eq_true w2]
      exact k
    exact iteT ⟨_, _, rfl, rfl, kk⟩
def spWidePl (K : PySem.W.Frag) : Sp := fun vs H Q _ => ∃ p e, vs = [.ref p] ∧ PairAt H p e ∧ B 300 e.1 ∧ B 300 e.2 ∧ Q (.bl true) H
theorem scWidePl : FnScope ["value"] ["value"] (defScope tWidePl) := ⟨rfl, rfl, rfl, by decide +kernel, rfl, by decide +kernel, by decide +kernel⟩
theorem ok_widePl {f fP fW : Addr} {fd fdP fdW : FuncData} (F : Fun K "is_wide_place" "is_wide_place" tWidePl f fd) (dP : Dn P w K mg base CX0 "is_pair" ["value"] 2 (spPair K) fP fdP)
    (dW : Dn P w K mg base CX0 "is_wide" ["value"] 2 (spWideI K) fW fdW) : FnOk P w K mg base CX0 3 f fd ["value"] (spWidePl K) := by
  refine F.ok scWidePl (fun vs H Q E h => ?_) (fun cdv A outer s H vs Q E hr h => ?_)
  · obtain ⟨p, e, rfl, _⟩ := h
    rfl
  · obtain ⟨p, e, rfl, ep, h1, h2, k⟩ := h
    refine ⟨_, pss_one (ps_ret (pe_and (pe_call dP.G hr rfl dP.g dP.kp dP.b .nil pass0 (pa_cons (pv 0) pa_nil))
      (pe_and (pe_call dW.G hr rfl dW.g dW.kp dW.b .nil pass0 (pa_cons (pe_ix ix_tup (pv 0) pe_int (fun _ _ => rfl)) pa_nil))
      (pe_one (pe_call dW.G hr rfl dW.g dW.kp dW.b .nil pass0 (pa_cons (pe_ix ix_tup (pv 0) pe_int (fun _ _ => rfl)) pa_nil)))))), ?_⟩
    refine ⟨_, rfl, _, _, rfl, .two ep (.int _) (.int _), _, rfl, iteT ⟨_, rfl, p, _, 0, _, rfl, rfl, SqT.of ep, atI_nat (j := 0) rfl, _, rfl, h1, _, rfl, iteT ⟨_, rfl, p, _, 1, _, rfl, rfl, SqT.of ep, atI_nat (j := 1) rfl, _, rfl, h2, k⟩⟩⟩
def spCounter (K : PySem.W.Frag) : Sp := fun vs H Q _ => ∃ i, vs = [V.int i] ∧ B 300 i ∧ 0 ≤ i ∧ Q .non H
theorem scCounter : FnScope ["value"] ["value"] (defScope tCounter) := ⟨rfl, rfl, rfl, by decide +kernel, rfl, by decide +kernel, by decide +kernel⟩
theorem ok_counter {f fW : Addr} {fd fdW : FuncData} (F : Fun K "check_counter" "check_counter" tCounter f fd) (dW : Dn P w K mg base CX0 "is_wide" ["value"] 2 (spWideI K) fW fdW) : FnOk P w K mg base CX0 3 f fd ["value"] (spCounter K) := by
  refine F.ok scCounter (fun vs H Q E h => ?_) (fun cdv A outer s H vs Q E hr h => ?_)
  · obtain ⟨i, rfl, _⟩ := h
    rfl
  · obtain ⟨i, rfl, h1, h2, k⟩ := h
    refine ⟨_, pss_one (ps_if (PW.pt (pw_or (pt_not (pt_val (pe_call dW.G hr rfl dW.g dW.kp dW.b .nil pass0 (pa_cons (pv 0) pa_nil)))) (pw_or1 (pt_cmpR op_lt (pv 0) pe_int (nomark _))))) pss_never pss_nil), ?_⟩
    refine ⟨_, rfl, _, rfl, h1, _, rfl, iteF ⟨_, rfl, _, _, rfl, rfl, _, rfl, ?_⟩⟩
    rw [decide_eq_false (by omega)]
    exact iteF k
def spChkB (K : PySem.W.Frag) : Sp := fun vs H Q _ => ∃ b : Bd, vs = [.int b.low, oV b.high, .int b.first, oV b.rounds] ∧ BB 300 b ∧ 0 ≤ b.low ∧ 0 ≤ b.first ∧ (∀ r, b.rounds = some r → 0 ≤ r) ∧ Q .non H
theorem scChkB : FnScope ["low", "high", "first", "rounds"] ["low", "high", "first", "rounds"] (defScope tChkB) := ⟨rfl, rfl, rfl, by decide +kernel, rfl, by decide +kernel, by decide +kernel⟩
theorem ok_chkB {f fW fC : Addr} {fd fdW fdC : FuncData} (F : Fun K "check_bounds" "check_bounds" tChkB f fd) (dW : Dn P w K mg base CX0 "is_wide" ["value"] 2 (spWideI K) fW fdW) (dC : Dn P w K mg base CX0 "check_counter" ["value"] 3 (spCounter K) fC fdC) :
    FnOk P w K mg base CX0 4 f fd ["low", "high", "first", "rounds"] (spChkB K) := by
  refine F.ok scChkB (fun vs H Q E h => ?_) (fun cdv A outer s H vs Q E hr h => ?_)
  · obtain ⟨b, rfl, _⟩ := h
    rfl
  · obtain ⟨b, rfl, bb, l0, f0, r0, k⟩ := h
    have hr2 : Room 2 _ := hr.mono (by decide)
    refine ⟨_, pss_cons (ps_expr (pe_call dC.G hr rfl dC.g dC.kp dC.b .nil pass0 (pa_cons (pv 0) pa_nil)))
      (pss_cons (ps_if (PW.pt (pw_and (pt_cmpR op_notN (pv 1) pe_non (nomark _)) (pw_and1 (pt_not (pt_val (pe_call dW.G hr2 rfl dW.g dW.kp dW.b .nil pass0 (pa_cons (pv 1) pa_nil))))))) pss_never pss_nil)
      (pss_cons (ps_expr (pe_call dC.G hr rfl dC.g dC.kp dC.b .nil pass0 (pa_cons (pv 2) pa_nil)))
      (pss_one (ps_if (pt_cmpR op_notN (pv 3) pe_non (nomark _)) (pss_one (ps_expr (pe_call dC.G hr rfl dC.g dC.kp dC.b .nil pass0 (pa_cons (pv 3) pa_nil)))) pss_nil)))), ?_⟩
    obtain ⟨low, high, first, rounds⟩ := b
    refine ⟨_, rfl, _, rfl, bb.low, l0, _, rfl, rfl, _, rfl, ?_⟩
    have last : ∀ {X : Prop}, (X → X) := fun h => h
    cases high with
    | none =>
      refine iteF (iteF ?_)
      refine ⟨_, rfl, _, rfl, bb.first, f0, _, rfl, rfl, _, rfl, ?_⟩
      cases rounds with
      | none => exact iteF k
      | some r => exact iteT ⟨_, rfl, _, rfl, bb.rounds r rfl, r0 r rfl, k⟩
    | some h =>
      refine iteT ⟨_, rfl, _, rfl, bb.high h rfl, _, rfl, iteF ?_⟩
      refine ⟨_, rfl, _, rfl, bb.first, f0, _, rfl, rfl, _, rfl, ?_⟩
      cases rounds with
      | none => exact iteF k
      | some r => exact iteT ⟨_, rfl, _, rfl, bb.rounds r rfl, r0 r rfl, k⟩
/-! ### after, goes_up, slacks -/
def spAfter : Sp := fun vs H Q _ => ∃ p s e st i, vs = [.ref p, .ref s, .int i] ∧ PairAt H p e ∧ PairAt H s st ∧ B 2000 st.1 ∧ B 2000 st.2 ∧ B 2000 i ∧ ∀ t H', Same H H' → PairAt H' t (after e st i) → Q (.ref t) H'
theorem scAfter : FnScope ["pair", "step", "times"] ["pair", "step", "times"] (defScope tAfter) := ⟨rfl, rfl, rfl, by decide +kernel, rfl, by decide +kernel, by decide +kernel⟩
theorem ok_after {f : Addr} {fd : FuncData} (F : Fun K "after" "after" tAfter f fd) : FnOk P w K mg base CX0 1 f fd ["pair", "step", "times"] spAfter := by
  refine F.ok scAfter (fun vs H Q E h => ?_) (fun cdv A outer s H vs Q E hr h => ?_)
  · obtain ⟨p, s, e, st, i, rfl, _⟩ := h
    rfl
  · obtain ⟨p, s', e, st, i, rfl, ep, es, b1, b2, b3, k⟩ := h
    refine ⟨_, pss_one (ps_ret (pe_tup (pa_cons (pe_op op_add (pe_ix ix_tup (pv 0) pe_int (fun _ _ => rfl)) (pe_op op_mulW (pe_ix ix_tup (pv 1) pe_int (fun _ _ => rfl)) (pv 2)))
      (pa_cons (pe_op op_add (pe_ix ix_tup (pv 0) pe_int (fun _ _ => rfl)) (pe_op op_mulW (pe_ix ix_tup (pv 1) pe_int (fun _ _ => rfl)) (pv 2))) pa_nil)))), ?_⟩
    refine ⟨_, rfl, p, _, 0, _, rfl, rfl, SqT.of ep, atI_nat (j := 0) rfl, _, rfl, s', _, 0, _, rfl, rfl, SqT.of es, atI_nat (j := 0) rfl, _, rfl, _, _, rfl, rfl, b1.ml b3, _, _, rfl, rfl, ?_⟩
    refine ⟨_, rfl, p, _, 1, _, rfl, rfl, SqT.of ep, atI_nat (j := 1) rfl, _, rfl, s', _, 1, _, rfl, rfl, SqT.of es, atI_nat (j := 1) rfl, _, rfl, _, _, rfl, rfl, b2.ml b3, _, _, rfl, rfl, ?_⟩
    exact ⟨n_line, fun t nt => k t _ (grow nt) upd_same⟩
def spGoes : Sp := fun vs H Q _ => ∃ p u v, vs = [.ref p] ∧ PairAt H p (u, v) ∧ (u ≠ 0 ∨ v ≠ 0) ∧ ∀ H', Same H H' → Q (.bl (up u v)) H'
theorem scGoes : FnScope ["slopes", "slope"] ["slopes"] (defScope tGoes) := ⟨rfl, rfl, rfl, by decide +kernel, rfl, by decide +kernel, by decide +kernel⟩
theorem ok_goes {f : Addr} {fd : FuncData} (F : Fun K "goes_up" "goes_up" tGoes f fd) : FnOk P w K mg base CX0 1 f fd ["slopes"] spGoes := by
  refine F.ok scGoes (fun vs H Q E h => ?_) (fun cdv A outer s H vs Q E hr h => ?_)
  · obtain ⟨p, u, v, rfl, _⟩ := h
    rfl
  · obtain ⟨p, u, v, rfl, ep, nz, k⟩ := h
    refine ⟨_, pss_one (ps_ret (pe_cmpR op_gt (pe_ix ix_list (pe_lc (own := [("slope", 1)]) (g := gName 1) (tt := _) (by rfl) scGoes.nd (pi_tup (pv 0)) (blkOk_by (own := [("slope", 1)]) (N := ["slopes", "slope"]) (sc := defScope tGoes) (by decide +kernel))
        (fun _ _ _ _ _ => pg_name (i := 1) scGoes.nd rfl (Or.inl rfl)) (fun _ _ _ _ _ => pts_one (pt_cmpR op_ne (pv 1) pe_int (nomark _))) (fun _ _ _ _ _ => pv 1)) pe_int (fun _ _ => rfl)) pe_int (nomark _))), ?_⟩
    refine ⟨_, rfl, p, rfl, ⟨_, SqT.of ep⟩, fun D hD => lc_tup (xs := [V.int u, V.int v]) (fun i H' => Acc H D ((([u, v].take i).filter (fun z => z ≠ 0)).map V.int) H') (Acc.start hD) (fun i H' _ q => SqT.of (q.1 _ _ ep)) ?_ ?_⟩
    · intro i y H4 hy q
      obtain ⟨z, rfl, hz⟩ := int_at (xs := [u, v]) (show ([u, v].map V.int)[i]? = some y from hy)
      refine ⟨rfl, _, rfl, rfl, _, rfl, ?_⟩
      have st : (([u, v].take (i + 1)).filter (fun z => z ≠ 0)).map V.int = (([u, v].take i).filter (fun z => z ≠ 0)).map V.int ++ (([z].filter (fun z => z ≠ 0)).map V.int) := by
        rw [take_step hz, List.filter_append, List.map_append]
      by_cases c : z = 0
      · have ce : (!decide (V.int z = V.int 0)) = false := by simp [c]
        rw [ce]
        refine iteF ?_
        rw [st]
        simp only [c, ne_eq, not_true_eq_false, decide_false, List.filter_cons, Bool.false_eq_true, if_false, List.filter_nil, List.map_nil, List.append_nil]
        exact q
      · have ce : (!decide (V.int z = V.int 0)) = true := by simp [c]
        rw [ce]
        refine iteT ⟨_, rfl, _, q.2.2, ?_, ?_⟩
        · have l1 := List.length_filter_le (fun z : Int => decide (z ≠ 0)) ([u, v].take i)
          have l2 : ([u, v].take i).length ≤ 2 := by
            rw [List.length_take]
            exact Nat.min_le_right _ _
          have : (1000 : Nat) < sizeLine := by decide
          rw [List.length_map]
          omega
        · rw [st]
          simp only [c, ne_eq, not_false_eq_true, decide_true, List.filter_cons, if_true, List.filter_nil, List.map_nil, List.map_cons]
          exact q.put
    · intro H4 q
      rw [show [V.int u, V.int v].length = 2 from rfl, show [u, v].take 2 = [u, v] from rfl] at q
      have at0 : ∃ z r, (([u, v].filter (fun z => z ≠ 0)).map V.int) = V.int z :: r ∧ up u v = decide (0 < z) := by
        unfold up
        by_cases c : u = 0
        · have c2 : v ≠ 0 := by omega
          refine ⟨v, [], ?_, by rw [if_pos c]⟩
          simp [c, c2]
        · refine ⟨u, ([v].filter (fun z => z ≠ 0)).map V.int, ?_, by rw [if_neg c]⟩
          simp [c]
      obtain ⟨z, r, e1, e2⟩ := at0
      rw [e1] at q
      refine ⟨D, _, 0, _, rfl, rfl, SqL.of q.2.2, atI_nat (j := 0) rfl, _, _, rfl, rfl, ?_⟩
      have kk := k _ q.1
      rw [e2] at kk
      exact kk
def spSlacks : Sp := fun vs H Q _ => ∃ p q e b, vs = [.ref p, .ref q] ∧ PairAt H p e ∧ BdAt H q b ∧ ∀ t H', Same H H' → LiAt H' t (slacks e b) → Q (.ref t) H'
theorem scSlacks : FnScope ["pair", "bounds", "earlier", "later", "low", "high", "first", "rounds", "kept"] ["pair", "bounds"] (defScope tSlacks) := ⟨rfl, rfl, rfl, by decide +kernel, rfl, by decide +kernel, by decide +kernel⟩
theorem ok_slacks {f : Addr} {fd : FuncData} (F : Fun K "slacks" "slacks" tSlacks f fd) : FnOk P w K mg base CX0 1 f fd ["pair", "bounds"] spSlacks := by
  refine F.ok scSlacks (fun vs H Q E h => ?_) (fun cdv A outer s H vs Q E hr h => ?_)
  · obtain ⟨p, q, e, b, rfl, _⟩ := h
    rfl
  · obtain ⟨p, q, e, b, rfl, ep, eb, k⟩ := h
    refine ⟨_, pss_cons (ps_asg (pv 0) (pg_tup rfl (pgs_cons (pg_name (i := 2) scSlacks.nd rfl (.inl rfl)) (pgs_cons (pg_name (i := 3) scSlacks.nd rfl (.inl rfl)) pgs_nil))))
      (pss_cons (ps_asg (pv 1) (pg_tup rfl (pgs_cons (pg_name (i := 4) scSlacks.nd rfl (.inl rfl)) (pgs_cons (pg_name (i := 5) scSlacks.nd rfl (.inl rfl)) (pgs_cons (pg_name (i := 6) scSlacks.nd rfl (.inl rfl)) (pgs_cons (pg_name (i := 7) scSlacks.nd rfl (.inl rfl)) pgs_nil))))))
      (pss_cons (ps_set (i := 8) scSlacks.nd rfl (.inl rfl) (pe_lst (pa_cons (pe_op op_sub (pv 2) (pv 6)) (pa_cons (pe_op op_sub (pe_op op_sub (pv 3) (pv 2)) (pv 4)) pa_nil))))
      (pss_cons (ps_if (pt_cmpR op_notN (pv 5) pe_non (nomark _)) (pss_one (ps_expr (pe_bm PySem.F.plainAttrs_list PySem.F.slot_list_append PySem.F.type_list_append mt_append (pv 8) (pa_cons (pe_op op_add (pe_op op_sub (pv 5) (pv 3)) (pv 2)) pa_nil)))) pss_nil)
      (pss_cons (ps_if (pt_cmpR op_notN (pv 7) pe_non (nomark _)) (pss_one (ps_expr (pe_bm PySem.F.plainAttrs_list PySem.F.slot_list_append PySem.F.type_list_append mt_append (pv 8) (pa_cons (pe_op op_sub (pe_op op_sub (pv 7) pe_int) (pv 3)) pa_nil)))) pss_nil)
      (pss_one (ps_ret (pv 8))))))), ?_⟩
    obtain ⟨low, high, first, rounds⟩ := b
    obtain ⟨e1, e2⟩ := e
    refine ⟨_, rfl, p, _, rfl, SqT.of ep, rfl, _, _, rfl, _, _, rfl, rfl, ?_⟩
    refine ⟨_, rfl, q, _, rfl, SqT.of eb, rfl, _, _, rfl, _, _, rfl, _, _, rfl, _, _, rfl, rfl, ?_⟩
    refine ⟨_, rfl, _, rfl, _, _, rfl, rfl, _, rfl, _, rfl, _, _, rfl, rfl, _, rfl, _, _, rfl, rfl, n_line, fun l nl => ?_⟩
    have a0 : Acc H l [V.int (e1 - first), V.int (e2 - e1 - low)] (upd H l (.lst [V.int (e1 - first), V.int (e2 - e1 - low)])) := ⟨grow nl, nl, upd_same⟩
    have line : (1000 : Nat) < sizeLine := by decide
    cases high with
    | none =>
      refine ⟨_, rfl, rfl, _, rfl, iteF ?_⟩
      cases rounds with
      | none => exact ⟨_, rfl, rfl, _, rfl, iteF ⟨_, rfl, k l _ a0.1 a0.2.2⟩⟩
      | some r =>
        refine ⟨_, rfl, rfl, _, rfl, iteT ⟨_, rfl, .inl ⟨rfl, _, SqL.of a0.2.2⟩, _, rfl, _, _, rfl, rfl, _, rfl, _, _, rfl, rfl, l, _, _, rfl, rfl, a0.2.2, by simp; omega, ?_⟩⟩
        exact ⟨_, rfl, k l _ a0.put.1 a0.put.2.2⟩
    | some h =>
      refine ⟨_, rfl, rfl, _, rfl, iteT ⟨_, rfl, .inl ⟨rfl, _, SqL.of a0.2.2⟩, _, rfl, _, rfl, _, _, rfl, rfl, _, rfl, _, _, rfl, rfl, l, _, _, rfl, rfl, a0.2.2, by simp; omega, ?_⟩⟩
      have a1 := a0.put (ys := [V.int (e1 - first), V.int (e2 - e1 - low)] ++ [V.int (h - e2 + e1)])
      cases rounds with
      | none => exact ⟨_, rfl, rfl, _, rfl, iteF ⟨_, rfl, k l _ a1.1 a1.2.2⟩⟩
      | some r =>
        refine ⟨_, rfl, rfl, _, rfl, iteT ⟨_, rfl, .inl ⟨rfl, _, SqL.of a1.2.2⟩, _, rfl, _, _, rfl, rfl, _, rfl, _, _, rfl, rfl, l, _, _, rfl, rfl, a1.2.2, by simp; omega, ?_⟩⟩
        exact ⟨_, rfl, k l _ a1.put.1 a1.put.2.2⟩
end
end K11
namespace K11
open PySem L2
open L2.My
open Met
def LineAt (H : Hp) (t : Addr) (l : Line) : Prop := ∃ a b, H t = some (.tup [.ref a, .ref b]) ∧ PairAt H a l.base ∧ PairAt H b l.step
theorem LineAt.same {H H' : Hp} {t : Addr} {l : Line} (h : LineAt H t l) (s : Same H H') : LineAt H' t l := by
  obtain ⟨a, b, e, x, y⟩ := h
  exact ⟨a, b, s _ _ e, x.same s, y.same s⟩
structure LSz (l : Line) : Prop where
  b1 : B 705 l.base.1
  b2 : B 705 l.base.2
  s1 : B 300 l.step.1
  s2 : B 300 l.step.2
theorem line_sz {p q : Pr} {l : Line} (h1 : B 300 p.1) (h2 : B 300 p.2) (h3 : B 300 q.1) (h4 : B 300 q.2) (h : lineOf p q = some l) : LSz l := by
  have L := lim403 (h1.up (m := 400)) (h3.up (m := 400))
  have D := divOf_lim p.1 q.1
  unfold lineOf at h
  generalize divOf p.1 q.1 = d at D h
  by_cases c : (q.2 - p.2) % d.g ≠ 0
  · simp only [if_pos c] at h
    cases h
  · simp only [if_neg c] at h
    have h := Option.some.inj h
    subst h
    have bt : B 301 ((q.2 - p.2) / d.g) := (h4.sub h2).div
    exact ⟨((B.lim D.x L).mul bt).up, ((B.lim D.y L).neg.mul bt).up, h3.div, h1.div⟩
theorem slacks_B {n : Nat} {e : Pr} {b : Bd} (h1 : B n e.1) (h2 : B n e.2) (hb : BB n b) (n1 : 1 ≤ n := by omega) : ∀ x ∈ slacks e b, B (n + 2) x := by
  intro x m
  obtain ⟨low, high, first, rounds⟩ := b
  obtain ⟨b1, b2, b3, b4⟩ := hb
  unfold slacks at m
  rcases List.mem_append.mp m with m | m
  · rcases List.mem_append.mp m with m | m
    · simp only [List.mem_cons, List.not_mem_nil, or_false] at m
      rcases m with rfl | rfl
      · exact (h1.sub b3).up
      · exact (h2.sub h1).sub (b1.up)
    · cases high with
      | none => exact absurd m List.not_mem_nil
      | some h =>
        rw [List.mem_singleton.mp m]
        exact ((b2 h rfl).sub h2).add h1.up
  · cases rounds with
    | none => exact absurd m List.not_mem_nil
    | some r =>
      rw [List.mem_singleton.mp m]
      exact ((b4 r rfl).sub (.one n1)).sub h2.up
theorem slacks_len (e x : Pr) (b : Bd) : (slacks e b).length = (slacks x b).length := by
  unfold slacks
  cases b.high <;> cases b.rounds <;> rfl
theorem slacks_len4 (e : Pr) (b : Bd) : (slacks e b).length ≤ 4 := by
  unfold slacks
  cases b.high <;> cases b.rounds <;> simp
theorem BB.up {n m : Nat} {b : Bd} (h : BB n b) (l : n ≤ m := by omega) : BB m b := ⟨h.low.up l, fun x e => (h.high x e).up l, h.first.up l, fun x e => (h.rounds x e).up l⟩
section
variable {P : Program} {w : World} {K : PySem.W.Frag} {mg : Str → Option Value} {base : Heap}
/-! ### line_of -/
def OLine (H : Hp) (o : Option Line) (v : V) : Prop := match o with
  | none => v = .non
  | some l => ∃ t, v = .ref t ∧ LineAt H t l
theorem OLine.same {H H' : Hp} {o : Option Line} {v : V} (h : OLine H o v) (s : Same H H') : OLine H' o v := by
  cases o with
  | none => exact h
  | some l =>
    obtain ⟨t, e, x⟩ := h
    exact ⟨t, e, x.same s⟩
structure PSz (p q : Pr) : Prop where
  h1 : B 300 p.1
  h2 : B 300 p.2
  h3 : B 300 q.1
  h4 : B 300 q.2
  nz : p.1 ≠ 0 ∨ q.1 ≠ 0
def spLine : Sp := fun vs H Q _ => ∃ a b p q, vs = [.ref a, .ref b] ∧ PairAt H a p ∧ PairAt H b q ∧ PSz p q ∧ ∀ v H', Same H H' → OLine H' (lineOf p q) v → Q v H'
theorem scLine : FnScope ["place", "other", "divisor", "left", "right", "apart", "times"] ["place", "other"] (defScope tLine) := ⟨rfl, rfl, rfl, by decide +kernel, rfl, by decide +kernel, by decide +kernel⟩
theorem ok_line {f fD : Addr} {fd fdD : FuncData} (F : Fun K "line_of" "line_of" tLine f fd) (dD : Dn P w K mg base CX0 "divisor_of" ["one", "other"] 1 spDiv fD fdD) : FnOk P w K mg base CX0 2 f fd ["place", "other"] spLine := by
  refine F.ok scLine (fun vs H Q E h => ?_) (fun cdv A outer s H vs Q E hr h => ?_)
  · obtain ⟨a, b, p, q, rfl, _⟩ := h
    rfl
  · obtain ⟨a, b, p, q, rfl, ep, eq, ⟨h1, h2, h3, h4, nz⟩, k⟩ := h
    refine ⟨_, pss_cons (ps_asg (pe_call dD.G hr rfl dD.g dD.kp dD.b .nil pass0 (pa_cons (pe_ix ix_tup (pv 0) pe_int (fun _ _ => rfl)) (pa_cons (pe_ix ix_tup (pv 1) pe_int (fun _ _ => rfl)) pa_nil)))
        (pg_tup rfl (pgs_cons (pg_name (i := 2) scLine.nd rfl (.inl rfl)) (pgs_cons (pg_name (i := 3) scLine.nd rfl (.inl rfl)) (pgs_cons (pg_name (i := 4) scLine.nd rfl (.inl rfl)) pgs_nil)))))
      (pss_cons (ps_set (i := 5) scLine.nd rfl (.inl rfl) (pe_op op_sub (pe_ix ix_tup (pv 1) pe_int (fun _ _ => rfl)) (pe_ix ix_tup (pv 0) pe_int (fun _ _ => rfl))))
      (pss_cons (ps_if (pt_cmpR op_ne (pe_op op_mod (pv 5) (pv 2)) pe_int (nomark _)) (pss_one (ps_ret pe_non)) pss_nil)
      (pss_cons (ps_set (i := 6) scLine.nd rfl (.inl rfl) (pe_op op_fdivW (pv 5) (pv 2)))
      (pss_one (ps_ret (pe_tup (pa_cons (pe_tup (pa_cons (pe_op op_mulW (pv 3) (pv 6)) (pa_cons (pe_op op_mulW (pe_un un_neg (pv 4)) (pv 6)) pa_nil)))
        (pa_cons (pe_tup (pa_cons (pe_op op_fdivW (pe_ix ix_tup (pv 1) pe_int (fun _ _ => rfl)) (pv 2)) (pa_cons (pe_op op_fdivW (pe_ix ix_tup (pv 0) pe_int (fun _ _ => rfl)) (pv 2)) pa_nil))) pa_nil)))))))), ?_⟩
    have L := lim403 (h1.up (m := 400)) (h3.up (m := 400))
    have D := divOf_lim p.1 q.1
    have O := divOf_ok nz
    refine ⟨_, rfl, a, _, 0, _, rfl, rfl, SqT.of ep, atI_nat (j := 0) rfl, _, rfl, b, _, 0, _, rfl, rfl, SqT.of eq, atI_nat (j := 0) rfl, p.1, q.1, rfl, h1.up, h3.up, nz, fun t H1 s1 et => ?_⟩
    unfold lineOf at k
    generalize divOf p.1 q.1 = d at D O et k
    have bg : B 403 d.g := B.lim D.g L
    have bt : B 301 ((q.2 - p.2) / d.g) := (h4.sub h2).div
    have pos := O.pos
    refine ⟨t, _, rfl, SqT.of et, rfl, _, _, rfl, _, _, rfl, _, _, rfl, rfl, ?_⟩
    refine ⟨_, rfl, b, _, 1, _, rfl, rfl, SqT.of (s1 _ _ eq), atI_nat (j := 1) rfl, _, rfl, a, _, 1, _, rfl, rfl, SqT.of (s1 _ _ ep), atI_nat (j := 1) rfl, _, _, rfl, rfl, ?_⟩
    refine ⟨_, rfl, _, rfl, _, _, rfl, rfl, pos, rfl, _, rfl, ?_⟩
    by_cases c : (q.2 - p.2) % d.g ≠ 0
    · have ce : (!decide (V.int ((q.2 - p.2) % d.g) = V.int 0)) = true := by simp [c]
      rw [ce]
      refine iteT (k _ _ s1 ?_)
      simp only [if_pos c]
      rfl
    · have ce : (!decide (V.int ((q.2 - p.2) % d.g) = V.int 0)) = false := by
        simp only [ne_eq, Decidable.not_not] at c
        simp [c]
      rw [ce]
      refine iteF ⟨_, rfl, _, rfl, _, _, rfl, rfl, bg.dw pos, ?_⟩
      refine ⟨_, rfl, _, rfl, _, _, rfl, rfl, (B.lim D.x L).ml bt, _, rfl, _, rfl, _, rfl, _, _, rfl, rfl, (B.lim D.y L).neg.ml bt, n_line, fun p1 n1 => ?_⟩
      obtain ⟨H2, z2, s2, e2⟩ := mk_at (o := .tup [V.int (d.x * ((q.2 - p.2) / d.g)), V.int (-d.y * ((q.2 - p.2) / d.g))]) n1
      rw [z2]
      refine ⟨_, rfl, b, _, 0, _, rfl, rfl, SqT.of ((s1.trans s2) _ _ eq), atI_nat (j := 0) rfl, _, rfl, _, _, rfl, rfl, bg.dw pos, _, rfl, a, _, 0, _, rfl, rfl, SqT.of ((s1.trans s2) _ _ ep), atI_nat (j := 0) rfl, _, rfl, _, _, rfl, rfl, bg.dw pos, n_line, fun p2 n2 => ?_⟩
      obtain ⟨H3, z3, s3, e3⟩ := mk_at (o := .tup [V.int (q.1 / d.g), V.int (p.1 / d.g)]) n2
      rw [z3]
      refine ⟨n_line, fun t2 nt2 => k _ _ (s1.trans (s2.trans (s3.trans (grow nt2)))) ?_⟩
      simp only [if_neg c]
      exact ⟨t2, rfl, p1, p2, upd_same, grow nt2 _ _ (s3 _ _ e2), grow nt2 _ _ e3⟩
/-! ### limits_of -/
def OLim (H : Hp) (o : Option (List Int × List Int)) (v : V) : Prop := match o with
  | none => v = .non
  | some x => ∃ t a b, v = .ref t ∧ H t = some (.tup [.ref a, .ref b]) ∧ LiAt H a x.1 ∧ LiAt H b x.2
theorem OLim.same {H H' : Hp} {o : Option (List Int × List Int)} {v : V} (h : OLim H o v) (s : Same H H') : OLim H' o v := by
  cases o with
  | none => exact h
  | some l =>
    obtain ⟨t, a, b, e, x, y, z⟩ := h
    exact ⟨t, a, b, e, s _ _ x, y.same s, z.same s⟩
def spLimits : Sp := fun vs H Q _ => ∃ t q l b, vs = [.ref t, .ref q] ∧ LineAt H t l ∧ BdAt H q b ∧ LSz l ∧ BB 300 b ∧ ∀ v H', Same H H' → OLim H' (limits l b) v → Q v H'
theorem scLimits : FnScope ["line", "bounds", "here", "then", "starts", "ends", "slack", "next_slack", "growth"] ["line", "bounds"] (defScope tLimits) := ⟨rfl, rfl, rfl, by decide +kernel, rfl, by decide +kernel, by decide +kernel⟩
/-- two growing lists -/
structure Acc2 (H0 : Hp) (D1 D2 : Addr) (xs ys : List Int) (H : Hp) : Prop where
  same : Same H0 H
  n1 : H0 D1 = none
  n2 : H0 D2 = none
  ne : D1 ≠ D2
  a1 : LiAt H D1 xs
  a2 : LiAt H D2 ys
theorem Acc2.put1 {H0 H : Hp} {D1 D2 : Addr} {xs ys : List Int} (a : Acc2 H0 D1 D2 xs ys H) (n : Int) : Acc2 H0 D1 D2 (xs ++ [n]) ys (upd H D1 (.lst (xs.map V.int ++ [V.int n]))) :=
  ⟨fun q o e => by rw [upd_ne (ne_of_none e a.n1)]; exact a.same q o e, a.n1, a.n2, a.ne, by unfold LiAt; rw [upd_same, List.map_append]; rfl, by unfold LiAt; rw [upd_ne a.ne.symm]; exact a.a2⟩
theorem Acc2.put2 {H0 H : Hp} {D1 D2 : Addr} {xs ys : List Int} (a : Acc2 H0 D1 D2 xs ys H) (n : Int) : Acc2 H0 D1 D2 xs (ys ++ [n]) (upd H D2 (.lst (ys.map V.int ++ [V.int n]))) :=
  ⟨fun q o e => by rw [upd_ne (ne_of_none e a.n2)]; exact a.same q o e, a.n1, a.n2, a.ne, by unfold LiAt; rw [upd_ne a.ne]; exact a.a1, by unfold LiAt; rw [upd_same, List.map_append]; rfl⟩
theorem Acc2.on {H0 H H' : Hp} {D1 D2 : Addr} {xs ys : List Int} (a : Acc2 H0 D1 D2 xs ys H) (s : Same H H') : Acc2 H0 D1 D2 xs ys H' := ⟨a.same.trans s, a.n1, a.n2, a.ne, a.a1.same s, a.a2.same s⟩
theorem drop_cons {α : Type} {xs : List α} {i : Nat} {x : α} (h : xs[i]? = some x) : xs.drop i = x :: xs.drop (i + 1) := by
  obtain ⟨l, e⟩ := List.getElem?_eq_some_iff.mp h
  rw [List.drop_eq_getElem_cons l, e]
theorem ok_limits {f fS fA : Addr} {fd fdS fdA : FuncData} (F : Fun K "limits_of" "limits_of" tLimits f fd) (hzip : mg "zip" = none) (dS : Dn P w K mg base CX0 "slacks" ["pair", "bounds"] 1 spSlacks fS fdS) (dA : Dn P w K mg base CX0 "after" ["pair", "step", "times"] 1 spAfter fA fdA) :
    FnOk P w K mg base CX0 2 f fd ["line", "bounds"] spLimits := by
  refine F.ok scLimits (fun vs H Q E h => ?_) (fun cdv A outer s H vs Q E hr h => ?_)
  · obtain ⟨a, b, p, q, rfl, _⟩ := h
    rfl
  · obtain ⟨t, q, l, b, rfl, lt, eb, sz, bb, k⟩ := h
    refine ⟨_, pss_cons (ps_par (i := 2) (j := 3) rfl scLimits.nd rfl rfl (by decide) rfl rfl (pa_cons (pe_call dS.G hr rfl dS.g dS.kp dS.b .nil pass0 (pa_cons (pe_ix ix_tup (pv 0) pe_int (fun _ _ => rfl)) (pa_cons (pv 1) pa_nil)))
        (pa_cons (pe_call dS.G hr rfl dS.g dS.kp dS.b .nil pass0 (pa_cons (pe_call dA.G hr rfl dA.g dA.kp dA.b .nil pass0 (pa_cons (pe_ix ix_tup (pv 0) pe_int (fun _ _ => rfl)) (pa_cons (pe_ix ix_tup (pv 0) pe_int (fun _ _ => rfl)) (pa_cons pe_int pa_nil)))) (pa_cons (pv 1) pa_nil))) pa_nil)) (by rfl))
      (pss_cons (ps_par (i := 4) (j := 5) rfl scLimits.nd rfl rfl (by decide) rfl rfl (pa_cons (pe_lst pa_nil) (pa_cons (pe_lst pa_nil) pa_nil)) (by rfl))
      (pss_cons (ps_for PassesOwn.never rfl (RZ.pi_zipA rfl hzip (pa_cons (pv 2) (pa_cons (pv 3) pa_nil))) (pg_tup rfl (pgs_cons (pg_name (i := 6) scLimits.nd rfl (.inl rfl)) (pgs_cons (pg_name (i := 7) scLimits.nd rfl (.inl rfl)) pgs_nil)))
        (pss_cons (ps_set (i := 8) scLimits.nd rfl (.inl rfl) (pe_op op_sub (pv 7) (pv 6)))
        (pss_one (ps_if (pt_cmpR op_gt (pv 8) pe_int (nomark _)) (pss_one (ps_expr (pe_bm PySem.F.plainAttrs_list PySem.F.slot_list_append PySem.F.type_list_append mt_append (pv 4) (pa_cons (pe_un un_neg (pe_op op_fdivW (pv 6) (pv 8))) pa_nil))))
          (pss_one (ps_if (pt_cmpR op_lt (pv 8) pe_int (nomark _)) (pss_one (ps_expr (pe_bm PySem.F.plainAttrs_list PySem.F.slot_list_append PySem.F.type_list_append mt_append (pv 5) (pa_cons (pe_op op_fdivW (pv 6) (pe_un un_neg (pv 8))) pa_nil))))
            (pss_one (ps_if (pt_cmpR op_lt (pv 6) pe_int (nomark _)) (pss_one (ps_ret pe_non)) pss_nil))))))))
      (pss_one (ps_ret (pe_tup (pa_cons (pv 4) (pa_cons (pv 5) pa_nil))))))), ?_⟩
    obtain ⟨a1, a2, et, e1, e2⟩ := lt
    have line : (1000 : Nat) < sizeLine := by decide
    refine ⟨_, rfl, t, _, 0, _, rfl, rfl, SqT.of et, atI_nat (j := 0) rfl, _, rfl, a1, q, l.base, b, rfl, e1, eb, fun p1 H1 s1 l1 => ?_⟩
    refine ⟨_, rfl, t, _, 0, _, rfl, rfl, SqT.of (s1 _ _ et), atI_nat (j := 0) rfl, _, rfl, t, _, 1, _, rfl, rfl, SqT.of (s1 _ _ et), atI_nat (j := 1) rfl, a1, a2, l.base, l.step, 1, rfl, e1.same s1, e2.same s1, sz.s1.up, sz.s2.up, .one, fun p2 H2 s2 ep2 => ?_⟩
    refine ⟨_, rfl, p2, q, _, b, rfl, ep2, eb.same (s1.trans s2), fun p3 H3 s3 l3 => ?_⟩
    have l1' : LiAt H3 p1 _ := l1.same (s2.trans s3)
    have s03 := s1.trans (s2.trans s3)
    have b3 : ∀ x ∈ slacks l.base b, B 709 x := fun x m => (slacks_B (n := 705) sz.b1 sz.b2 bb.up (by omega) x m).up
    have b4 : ∀ x ∈ slacks (after l.base l.step 1) b, B 709 x := fun x m => (slacks_B (n := 706) (e := after l.base l.step 1) (sz.b1.add (by rw [Int.mul_one]; exact sz.s1.up)) (sz.b2.add (by rw [Int.mul_one]; exact sz.s2.up)) bb.up (by omega) x m).up
    have len := slacks_len l.base (after l.base l.step 1) b
    have len4 := slacks_len4 l.base b
    unfold limits at k
    generalize slacks l.base b = xs at l1' b3 len len4 k
    generalize slacks (after l.base l.step 1) b = ys at l3 b4 len k
    refine ⟨_, _, rfl, ?_⟩
    refine ⟨Nat.zero_le _, fun D1 nD1 => ?_⟩
    obtain ⟨H4, z4, s4, e4⟩ := mk_at (o := .lst []) nD1
    rw [z4]
    refine ⟨Nat.zero_le _, fun D2 nD2 => ?_⟩
    obtain ⟨H5, z5, s5, e5⟩ := mk_at (o := .lst []) nD2
    rw [z5]
    have ne12 : D1 ≠ D2 := by
      intro z
      rw [z] at e4
      rw [e4] at nD2
      cases nD2
    have A0 : Acc2 H3 D1 D2 [] [] H5 := ⟨s4.trans s5, nD1, s4.free nD2, ne12, s5 _ _ e4, e5⟩
    refine ⟨_, _, rfl, ?_⟩
    refine ⟨_, rfl, _, rfl, p1, p3, xs.map V.int, ys.map V.int, rfl, .inl ⟨SqL.of (A0.same _ _ l1'), SqL.of (A0.same _ _ l3), ?_⟩⟩
    refine for_it (walk_zip (n := xs.length) (by rw [List.length_map, List.length_map, ← len, Nat.min_self]))
      (fun i σ H' => ∃ (u v : List Int) (x6 x7 x8 : Option V), σ = [some (.ref t), some (.ref q), some (.ref p1), some (.ref p3), some (.ref D1), some (.ref D2), x6, x7, x8] ∧ Acc2 H3 D1 D2 u v H' ∧ u.length ≤ i ∧ v.length ≤ i ∧ limL ((xs.zip ys).drop i) u v = limL (xs.zip ys) [] [])
      ⟨[], [], none, none, none, rfl, A0, Nat.le_refl _, Nat.le_refl _, rfl⟩ (fun i σ H' _ ⟨_, _, _, _, _, _, a, _⟩ => ⟨SqL.of (a.same _ _ l1'), SqL.of (a.same _ _ l3)⟩) ?_ ?_
    · rintro i v σ H6 H7 hi ⟨us, vs, x6, x7, x8, rfl, a, lu, lv, ed⟩ ⟨T3, x, y, rfl, nT, rfl, hx, hy⟩
      obtain ⟨m, rfl, hm⟩ := int_at hx
      obtain ⟨n, rfl, hn⟩ := int_at hy
      obtain ⟨H8, z8, s8, e8⟩ := mk_at (o := .tup [V.int m, V.int n]) nT
      rw [z8]
      have a8 := a.on s8
      have bm := b3 m (List.mem_of_getElem? hm)
      have bn := b4 n (List.mem_of_getElem? hn)
      have hz : (xs.zip ys)[i]? = some (m, n) := by
        rw [List.getElem?_zip_eq_some]
        exact ⟨hm, hn⟩
      rw [drop_cons hz] at ed
      refine ⟨T3, _, rfl, SqT.of e8, rfl, _, _, rfl, _, _, rfl, rfl, ?_⟩
      refine ⟨_, rfl, _, rfl, _, _, rfl, rfl, ?_⟩
      refine ⟨_, rfl, _, _, rfl, rfl, _, rfl, ?_⟩
      rw [limL] at ed
      by_cases c : 0 < n - m
      · simp only [if_pos c] at ed
        rw [decide_eq_true c]
        refine iteT ⟨_, rfl, .inl ⟨rfl, _, SqL.of a8.a1⟩, _, rfl, _, rfl, _, _, rfl, rfl, (bn.sub bm).dw c, _, rfl, D1, _, _, rfl, rfl, a8.a1, by rw [List.length_map]; omega, ?_⟩
        refine ⟨_, _, _, _, _, rfl, a8.put1 _, ?_, by omega, ed⟩
        rw [List.length_append]
        show us.length + 1 ≤ i + 1
        omega
      · simp only [if_neg c] at ed
        rw [decide_eq_false c]
        refine iteF ⟨_, rfl, _, _, rfl, rfl, _, rfl, ?_⟩
        by_cases c2 : n - m < 0
        · simp only [if_pos c2] at ed
          rw [decide_eq_true c2]
          refine iteT ⟨_, rfl, .inl ⟨rfl, _, SqL.of a8.a2⟩, _, rfl, _, rfl, _, rfl, _, _, rfl, rfl, (bn.sub bm).neg.dw (by omega), D2, _, _, rfl, rfl, a8.a2, by rw [List.length_map]; omega, ?_⟩
          refine ⟨_, _, _, _, _, rfl, a8.put2 _, by omega, ?_, ed⟩
          rw [List.length_append]
          show vs.length + 1 ≤ i + 1
          omega
        · simp only [if_neg c2] at ed
          rw [decide_eq_false c2]
          refine iteF ⟨_, rfl, _, _, rfl, rfl, _, rfl, ?_⟩
          by_cases c3 : m < 0
          · simp only [if_pos c3] at ed
            rw [decide_eq_true c3]
            refine iteT (k _ _ (s03.trans a8.same) ?_)
            rw [← ed]
            rfl
          · simp only [if_neg c3] at ed
            rw [decide_eq_false c3]
            refine iteF ⟨_, _, _, _, _, rfl, a8, by omega, by omega, ed⟩
    · rintro σ H6 ⟨us, vs, x6, x7, x8, rfl, a, lu, lv, ed⟩
      have e0 : (xs.zip ys).drop xs.length = [] := by
        apply List.drop_eq_nil_of_le
        rw [List.length_zip]
        exact Nat.min_le_left _ _
      rw [e0] at ed
      refine ⟨_, rfl, _, rfl, n_line, fun t2 nt2 => k _ _ (s03.trans (a.same.trans (grow nt2))) ?_⟩
      rw [← ed]
      exact ⟨t2, D1, D2, rfl, upd_same, a.a1.same (grow nt2), a.a2.same (grow nt2)⟩
end
end K11
namespace K11
open PySem L2
open L2.My
open Met
section
variable {P : Program} {w : World} {K : PySem.W.Frag} {mg : Str → Option Value} {base : Heap}
/-! ### span_of -/
def OSpan (H : Hp) (o : Option Span) (v : V) : Prop := match o with
  | none => v = .non
  | some s => ∃ t, v = .ref t ∧ H t = some (.tup [oV s.1, oV s.2])
theorem OSpan.same {H H' : Hp} {o : Option Span} {v : V} (h : OSpan H o v) (s : Same H H') : OSpan H' o v := by
  cases o with
  | none => exact h
  | some l =>
    obtain ⟨t, e, x⟩ := h
    exact ⟨t, e, s _ _ x⟩
theorem max_oV {Q : V → Hp → Prop} {H : Hp} {ns : List Int} (k : Q (oV ns.max?) H) : (ns = [] → Q .non H) ∧ ∀ m, m ∈ ns → (∀ a, a ∈ ns → a ≤ m) → Q (.int m) H := by
  refine ⟨fun e => ?_, fun m h1 h2 => ?_⟩
  · rw [e] at k
    exact k
  · have z : ns.max? = some m := List.max?_eq_some_iff.mpr ⟨h1, h2⟩
    rw [z] at k
    exact k
theorem min_oV {Q : V → Hp → Prop} {H : Hp} {ns : List Int} (k : Q (oV ns.min?) H) : (ns = [] → Q .non H) ∧ ∀ m, m ∈ ns → (∀ a, a ∈ ns → m ≤ a) → Q (.int m) H := by
  refine ⟨fun e => ?_, fun m h1 h2 => ?_⟩
  · rw [e] at k
    exact k
  · have z : ns.min? = some m := List.min?_eq_some_iff.mpr ⟨h1, h2⟩
    rw [z] at k
    exact k
/-- max(xs, default=None), min(xs, default=None) -/
def rMaxO (K : PySem.W.Frag) : List V → List V → Hp → VK → Prop := fun vs zs H Q => ∃ (a : Addr) (ns : List Int), vs = [V.ref a] ∧ zs = [.non] ∧ SqL K H a (ns.map V.int) ∧ Q (oV ns.max?) H
def rMinO (K : PySem.W.Frag) : List V → List V → Hp → VK → Prop := fun vs zs H Q => ∃ (a : Addr) (ns : List Int), vs = [V.ref a] ∧ zs = [.non] ∧ SqL K H a (ns.map V.int) ∧ Q (oV ns.min?) H
theorem cr_maxO {X : Cx} (hc : X.calm = true) : CallRK X (.builtin "max") [Str.ofString "default"] (rMaxO X.K) := by
  intro pins s σ H vs zs us ws Q I r rz ⟨a, ns, e1, e2, hs, q⟩
  exact cr_maxDf hc pins s σ H vs zs us ws Q I r rz ⟨a, ns, .non, e1, e2, hs, max_oV q⟩
theorem cr_minO {X : Cx} (hc : X.calm = true) : CallRK X (.builtin "min") [Str.ofString "default"] (rMinO X.K) := by
  intro pins s σ H vs zs us ws Q I r rz ⟨a, ns, e1, e2, hs, q⟩
  exact cr_minDf hc pins s σ H vs zs us ws Q I r rz ⟨a, ns, .non, e1, e2, hs, min_oV q⟩
structure MTxt (mg : Str → Option Value) : Prop where
  max : mg "max" = none
  min : mg "min" = none
def spSpan : Sp := fun vs H Q _ => ∃ x o, vs = [x] ∧ OLim H o x ∧ ∀ v H', Same H H' → OSpan H' (spanOf o) v → Q v H'
theorem scSpan : FnScope ["limits", "start", "end"] ["limits"] (defScope tSpan) := ⟨rfl, rfl, rfl, by decide +kernel, rfl, by decide +kernel, by decide +kernel⟩
theorem ok_span {f : Addr} {fd : FuncData} (F : Fun K "span_of" "span_of" tSpan f fd) (T : MTxt mg) : FnOk P w K mg base CX0 1 f fd ["limits"] spSpan := by
  refine F.ok scSpan (fun vs H Q E h => ?_) (fun cdv A outer s H vs Q E hr h => ?_)
  · obtain ⟨x, o, rfl, _⟩ := h
    rfl
  · obtain ⟨x, o, rfl, ho, k⟩ := h
    refine ⟨_, pss_cons (ps_if (pt_cmpR op_isN (pv 0) pe_non (nomark _)) (pss_one (ps_ret pe_non)) pss_nil)
      (pss_cons (ps_par (i := 1) (j := 2) rfl scSpan.nd rfl rfl (by decide) rfl rfl (pa_cons (pe_callBK (cr_maxO rfl) (by rfl) T.max (by decide +kernel) (pa_cons (pe_ix ix_tup (pv 0) pe_int (fun _ _ => rfl)) pa_nil) (pk_cons pe_non pk_nil))
        (pa_cons (pe_callBK (cr_minO rfl) (by rfl) T.min (by decide +kernel) (pa_cons (pe_ix ix_tup (pv 0) pe_int (fun _ _ => rfl)) pa_nil) (pk_cons pe_non pk_nil)) pa_nil)) (by rfl))
      (pss_cons (ps_if (PW.pt (pw_and (pt_cmpR op_notN (pv 1) pe_non (nomark _)) (pw_and (pt_cmpR op_notN (pv 2) pe_non (nomark _)) (pw_and1 (pt_cmpR op_gt (pv 1) (pv 2) (nomark _)))))) (pss_one (ps_ret pe_non)) pss_nil)
      (pss_one (ps_ret (pe_tup (pa_cons (pv 1) (pa_cons (pv 2) pa_nil))))))), ?_⟩
    cases o with
    | none =>
      obtain rfl : x = .non := ho
      exact ⟨_, rfl, rfl, _, rfl, iteT (k _ _ (Same.refl _) rfl)⟩
    | some lm =>
      obtain ⟨t, a, b, rfl, et, ea, eb⟩ := ho
      obtain ⟨ss, ee⟩ := lm
      have ea : LiAt H a ss := ea
      have eb : LiAt H b ee := eb
      refine ⟨_, rfl, rfl, _, rfl, iteF ?_⟩
      have both : ∀ {R : V → V → Hp → Prop}, R (oV ss.max?) (oV ee.min?) H → True := fun _ => trivial
      refine ⟨_, rfl, t, _, 0, _, rfl, rfl, SqT.of et, atI_nat (j := 0) rfl, a, ss, rfl, rfl, SqL.of ea, ?_⟩
      refine ⟨_, rfl, t, _, 1, _, rfl, rfl, SqT.of et, atI_nat (j := 1) rfl, b, ee, rfl, rfl, SqL.of eb, ?_⟩
      refine ⟨_, _, rfl, ?_⟩
      have kk : ∀ v H', Same H H' → OSpan H' (if Met.gap ss.max? ee.min? = true then none else some (ss.max?, ee.min?)) v → Q v H' := k
      generalize ss.max? = m1 at kk ⊢
      generalize ee.min? = m2 at kk ⊢
      have fin : Met.gap m1 m2 = false → ∀ t, H t = none → Q (.ref t) (upd H t (.tup [oV m1, oV m2])) := fun g t nt => kk _ _ (grow nt) (by
        rw [if_neg (by rw [g]; decide)]
        exact ⟨t, rfl, upd_same⟩)
      cases m1 with
      | none => exact ⟨_, rfl, rfl, _, rfl, iteF (iteF ⟨_, rfl, _, rfl, n_line, fin rfl⟩)⟩
      | some u =>
        cases m2 with
        | none => exact ⟨_, rfl, rfl, _, rfl, iteT ⟨_, rfl, rfl, _, rfl, iteF (iteF ⟨_, rfl, _, rfl, n_line, fin rfl⟩)⟩⟩
        | some v =>
          refine ⟨_, rfl, rfl, _, rfl, iteT ⟨_, rfl, rfl, _, rfl, iteT ⟨_, rfl, _, rfl, _, _, rfl, rfl, _, rfl, ?_⟩⟩⟩
          by_cases c : v < u
          · rw [decide_eq_true c]
            refine iteT (kk _ _ (Same.refl _) ?_)
            rw [if_pos (show Met.gap (some u) (some v) = true from decide_eq_true c)]
            rfl
          · rw [decide_eq_false c]
            exact iteF ⟨_, rfl, _, rfl, n_line, fin (decide_eq_false c)⟩
/-! ### least_by -/
def OPair (H : Hp) (o : Option Pr) (v : V) : Prop := match o with
  | none => v = .non
  | some e => ∃ t, v = .ref t ∧ PairAt H t e
theorem OPair.same {H H' : Hp} {o : Option Pr} {v : V} (h : OPair H o v) (s : Same H H') : OPair H' o v := by
  cases o with
  | none => exact h
  | some l =>
    obtain ⟨t, e, x⟩ := h
    exact ⟨t, e, s _ _ x⟩
def SSz (s : Span) : Prop := (∀ a, s.1 = some a → B 710 a) ∧ ∀ a, s.2 = some a → B 710 a
def spLeast : Sp := fun vs H Q _ => ∃ t r p l s u v, vs = [.ref t, .ref r, .ref p] ∧ LineAt H t l ∧ H r = some (.tup [oV s.1, oV s.2]) ∧ PairAt H p (u, v) ∧ (u ≠ 0 ∨ v ≠ 0) ∧ LSz l ∧ SSz s ∧ ∀ x H', Same H H' → OPair H' (least l s u v) x → Q x H'
theorem scLeast : FnScope ["line", "span", "slopes", "end"] ["line", "span", "slopes"] (defScope tLeast) := ⟨rfl, rfl, rfl, by decide +kernel, rfl, by decide +kernel, by decide +kernel⟩
theorem ok_least {f fG fA : Addr} {fd fdG fdA : FuncData} (F : Fun K "least_by" "least_by" tLeast f fd) (dG : Dn P w K mg base CX0 "goes_up" ["slopes"] 1 spGoes fG fdG) (dA : Dn P w K mg base CX0 "after" ["pair", "step", "times"] 1 spAfter fA fdA) :
    FnOk P w K mg base CX0 2 f fd ["line", "span", "slopes"] spLeast := by
  refine F.ok scLeast (fun vs H Q E h => ?_) (fun cdv A outer s H vs Q E hr h => ?_)
  · obtain ⟨t, r, p, l, s, u, v, rfl, _⟩ := h
    rfl
  · obtain ⟨t, r, p, l, sp, u, v, rfl, lt, er, ep, nz, lz, sz, k⟩ := h
    refine ⟨_, pss_cons (ps_set (i := 3) scLeast.nd rfl (.inl rfl) (pe_ifExp (pt_val (pe_call dG.G hr rfl dG.g dG.kp dG.b .nil pass0 (pa_cons (pv 2) pa_nil))) (pe_ix ix_tup (pv 1) pe_int (fun _ _ => rfl)) (pe_ix ix_tup (pv 1) pe_int (fun _ _ => rfl))))
      (pss_one (ps_ret (pe_ifExp (pt_cmpR op_isN (pv 3) pe_non (nomark _)) pe_non (pe_call dA.G hr rfl dA.g dA.kp dA.b .nil pass0 (pa_cons (pe_ix ix_tup (pv 0) pe_int (fun _ _ => rfl)) (pa_cons (pe_ix ix_tup (pv 0) pe_int (fun _ _ => rfl)) (pa_cons (pv 3) pa_nil))))))), ?_⟩
    obtain ⟨a1, a2, et, e1, e2⟩ := lt
    have tail : ∀ (o : Option Int) (H1 : Hp), Same H H1 → (∀ a, o = some a → B 710 a) → (least l sp u v = o.map (after l.base l.step ·)) →
        (∀ (o1 : o = none), Q .non H1) ∧ (∀ a, o = some a → ∀ t' H', Same H1 H' → PairAt H' t' (after l.base l.step a) → Q (.ref t') H') := by
      intro o H1 s1 b1 el
      refine ⟨fun o1 => k _ _ s1 ?_, fun a oa t' H' s2 e' => k _ _ (s1.trans s2) ?_⟩
      · rw [el, o1]
        rfl
      · rw [el, oa]
        exact ⟨t', rfl, e'⟩
    refine ⟨_, rfl, p, u, v, rfl, ep, nz, fun H1 s1 => ⟨_, rfl, ?_⟩⟩
    cases cu : up u v with
    | true =>
      obtain ⟨k1, k2⟩ := tail sp.1 H1 s1 sz.1 (by unfold least; rw [if_pos cu])
      refine iteT ⟨_, rfl, r, _, 0, _, rfl, rfl, SqT.of (s1 _ _ er), atI_nat (j := 0) rfl, ?_⟩
      have b1 := sz.1
      generalize sp.1 = o at k1 k2 b1 ⊢
      cases o with
      | none => exact ⟨_, rfl, rfl, _, rfl, iteT (k1 rfl)⟩
      | some a => exact ⟨_, rfl, rfl, _, rfl, iteF ⟨_, rfl, t, _, 0, _, rfl, rfl, SqT.of (s1 _ _ et), atI_nat (j := 0) rfl, _, rfl, t, _, 1, _, rfl, rfl, SqT.of (s1 _ _ et), atI_nat (j := 1) rfl, _, rfl,
          a1, a2, l.base, l.step, a, rfl, e1.same s1, e2.same s1, lz.s1.up, lz.s2.up, (b1 a rfl).up, k2 a rfl⟩⟩
    | false =>
      obtain ⟨k1, k2⟩ := tail sp.2 H1 s1 sz.2 (by unfold least; rw [cu, if_neg (by decide)])
      refine iteF ⟨_, rfl, r, _, 1, _, rfl, rfl, SqT.of (s1 _ _ er), atI_nat (j := 1) rfl, ?_⟩
      have b1 := sz.2
      generalize sp.2 = o at k1 k2 b1 ⊢
      cases o with
      | none => exact ⟨_, rfl, rfl, _, rfl, iteT (k1 rfl)⟩
      | some a => exact ⟨_, rfl, rfl, _, rfl, iteF ⟨_, rfl, t, _, 0, _, rfl, rfl, SqT.of (s1 _ _ et), atI_nat (j := 0) rfl, _, rfl, t, _, 1, _, rfl, rfl, SqT.of (s1 _ _ et), atI_nat (j := 1) rfl, _, rfl,
          a1, a2, l.base, l.step, a, rfl, e1.same s1, e2.same s1, lz.s1.up, lz.s2.up, (b1 a rfl).up, k2 a rfl⟩⟩
/-! ### empty_paper -/
def PPAt (H : Hp) (t : Addr) : PP → Prop
  | .modulus g => H t = some (.tup [.str "modulus", .int g])
  | .near e => H t = some (.tup [.str "nearest", .int e.1, .int e.2])
  | .gap e => H t = some (.tup [.str "gap", .int e.1, .int e.2])
theorem PPAt.same {H H' : Hp} {t : Addr} {p : PP} (h : PPAt H t p) (s : Same H H') : PPAt H' t p := by
  cases p <;> exact s _ _ h
def LmSz (x : Option (List Int × List Int)) : Prop := ∀ y, x = some y → ∃ a, y.1.max? = some a ∧ B 710 a
def spEmpty : Sp := fun vs H Q _ => ∃ a b p q v x lm, vs = [.ref a, .ref b, v, x] ∧ PairAt H a p ∧ PairAt H b q ∧ PSz p q ∧ OLine H (lineOf p q) v ∧ (∀ l, lineOf p q = some l → OLim H lm x) ∧ LmSz lm ∧
  ∀ t H', Same H H' → PPAt H' t (match lineOf p q with | none => PP.modulus (divOf p.1 q.1).g | some l => .gap (gapAt l lm)) → Q (.ref t) H'
theorem scEmpty : FnScope ["place", "other", "line", "limits", "gap"] ["place", "other", "line", "limits"] (defScope tEmpty) := ⟨rfl, rfl, rfl, by decide +kernel, rfl, by decide +kernel, by decide +kernel⟩
theorem ok_empty {f fD fA : Addr} {fd fdD fdA : FuncData} (F : Fun K "empty_paper" "empty_paper" tEmpty f fd) (T : MTxt mg) (dD : Dn P w K mg base CX0 "divisor_of" ["one", "other"] 1 spDiv fD fdD) (dA : Dn P w K mg base CX0 "after" ["pair", "step", "times"] 1 spAfter fA fdA) :
    FnOk P w K mg base CX0 2 f fd ["place", "other", "line", "limits"] spEmpty := by
  refine F.ok scEmpty (fun vs H Q E h => ?_) (fun cdv A outer s H vs Q E hr h => ?_)
  · obtain ⟨a, b, p, q, v, x, lm, rfl, _⟩ := h
    rfl
  · obtain ⟨a, b, p, q, v, x, lm, rfl, ep, eq, ps, ol, om, lz, k⟩ := h
    refine ⟨_, pss_cons (ps_if (pt_cmpR op_isN (pv 2) pe_non (nomark _)) (pss_one (ps_ret (pe_tup (pa_cons pe_str (pa_cons (pe_ix ix_tup (pe_call dD.G hr rfl dD.g dD.kp dD.b .nil pass0 (pa_cons (pe_ix ix_tup (pv 0) pe_int (fun _ _ => rfl)) (pa_cons (pe_ix ix_tup (pv 1) pe_int (fun _ _ => rfl)) pa_nil))) pe_int (fun _ _ => rfl)) pa_nil))))) pss_nil)
      (pss_cons (ps_set (i := 4) scEmpty.nd rfl (.inl rfl) (pe_ifExp (pt_cmpR op_isN (pv 3) pe_non (nomark _)) pe_int (pe_op op_sub (pe_callB (cr_max rfl) (by rfl) T.max (by decide +kernel) (pa_cons (pe_ix ix_tup (pv 3) pe_int (fun _ _ => rfl)) pa_nil)) pe_int)))
      (pss_one (ps_ret (pe_tup (pa_cons pe_str (StX.pa_star (pe_call dA.G hr rfl dA.g dA.kp dA.b .nil pass0 (pa_cons (pe_ix ix_tup (pv 2) pe_int (fun _ _ => rfl)) (pa_cons (pe_ix ix_tup (pv 2) pe_int (fun _ _ => rfl)) (pa_cons (pv 4) pa_nil)))) pa_nil)))))), ?_⟩
    cases hl : lineOf p q with
    | none =>
      rw [hl] at ol k
      obtain rfl : v = .non := ol
      refine ⟨_, rfl, rfl, _, rfl, iteT ⟨_, rfl, a, _, 0, _, rfl, rfl, SqT.of ep, atI_nat (j := 0) rfl, _, rfl, b, _, 0, _, rfl, rfl, SqT.of eq, atI_nat (j := 0) rfl, p.1, q.1, rfl, ps.h1.up, ps.h3.up, ps.nz, fun t H1 s1 et => ?_⟩⟩
      exact ⟨t, _, 0, _, rfl, rfl, SqT.of et, atI_nat (j := 0) rfl, n_line, fun t2 nt2 => k _ _ (s1.trans (grow nt2)) upd_same⟩
    | some l =>
      rw [hl] at ol k
      obtain ⟨t, rfl, a1, a2, et, e1, e2⟩ := ol
      have om := om l hl
      have lsz := line_sz ps.h1 ps.h2 ps.h3 ps.h4 hl
      refine ⟨_, rfl, rfl, _, rfl, iteF ?_⟩
      have fin : ∀ i : Int, B 2000 i → (gapAt l lm = after l.base l.step i) → ∀ p' H', Same H H' → PairAt H' p' (after l.base l.step i) → ∀ t2, H' t2 = none → Q (.ref t2) (upd H' t2 (.tup ([V.str "gap"] ++ ([V.int (after l.base l.step i).1, V.int (after l.base l.step i).2] ++ [])))) := fun i _ eg p' H' s' e' t2 nt2 => by
        refine k _ _ (s'.trans (grow nt2)) ?_
        show PPAt _ t2 (.gap (gapAt l lm))
        rw [eg]
        exact upd_same
      cases lm with
      | none =>
        obtain rfl : x = .non := om
        refine ⟨_, rfl, rfl, _, rfl, iteT ?_⟩
        refine ⟨_, rfl, t, _, 0, _, rfl, rfl, SqT.of et, atI_nat (j := 0) rfl, _, rfl, t, _, 1, _, rfl, rfl, SqT.of et, atI_nat (j := 1) rfl, _, rfl, a1, a2, l.base, l.step, 0, rfl, e1, e2, lsz.s1.up, lsz.s2.up, B.le (.one) (by decide), fun p' H' s' e' => ?_⟩
        exact ⟨p', _, rfl, .inl (SqT.of e'), n_line, fin 0 (B.le (.one) (by decide)) rfl p' H' s' e'⟩
      | some y =>
        obtain ⟨t0, d1, d2, rfl, e0, l1, l2⟩ := om
        obtain ⟨m, hm, bm⟩ := lz y rfl
        refine ⟨_, rfl, rfl, _, rfl, iteF ⟨_, rfl, t0, _, 0, _, rfl, rfl, SqT.of e0, atI_nat (j := 0) rfl, d1, y.1, rfl, SqL.of l1, ?_, fun m' h1 h2 => ?_⟩⟩
        · have := List.length_pos_of_mem (List.max?_eq_some_iff.mp hm).1
          exact this
        · have em : m' = m := by
            have z : y.1.max? = some m' := List.max?_eq_some_iff.mpr ⟨h1, h2⟩
            rw [hm] at z
            exact (Option.some.inj z).symm
          subst em
          have b1 : B 711 (m' - 1) := bm.sub .one
          refine ⟨_, _, rfl, rfl, ?_⟩
          refine ⟨_, rfl, t, _, 0, _, rfl, rfl, SqT.of et, atI_nat (j := 0) rfl, _, rfl, t, _, 1, _, rfl, rfl, SqT.of et, atI_nat (j := 1) rfl, _, rfl, a1, a2, l.base, l.step, m' - 1, rfl, e1, e2, lsz.s1.up, lsz.s2.up, b1.up, fun p' H' s' e' => ?_⟩
          refine ⟨p', _, rfl, .inl (SqT.of e'), n_line, fin (m' - 1) b1.up ?_ p' H' s' e'⟩
          show after l.base l.step (y.1.max?.getD 0 - 1) = _
          rw [hm]
          rfl
end
end K11
namespace L2.My
open PySem PySem.Spec PyProof.Rows L2
/-- o.f = .. as one of several targets -/
def gFld (K : PySem.W.Frag) (ta : TE) (f : Str) : TG := fun v σ H Q => ta σ H fun x H1 => ∃ a C dx fs, x = .ref a ∧ H1 a = some (.ins C dx fs) ∧ Cls K C ∧ NoAttr K C f ∧ fs.length < 1000 ∧ Q σ (upd H1 a (.ins C dx (putF f v fs)))
theorem pg_fld {X : Cx} {o : Expr} {ta : TE} {f : Str} {pos : Pos} (ho : PE X o ta) : PG X (.Attribute o f pos) (gFld X.K ta f) := by
  refine ⟨fun pins s σ H v u Q I r h => ?_⟩
  rw [assign_Attribute]
  refine wpAny_bind (wpAny_holding (thn (ho.run pins s σ H _ I h) fun ov s1 ⟨x, H1, I1, r1, a, C, dx, fs, ex, ea, c, n, l, q⟩ => ?_))
  subst ex
  obtain rfl : ov = Value.ref a := r1
  refine wpAny_bind (wpAny_standAt (wpAny_bind (wpAny_holding (setattr_ok I1 ea c n l r fun s3 I3 => ?_))))
  exact wpAny_release ⟨σ, _, I3, q⟩
end L2.My
namespace K11
open PySem L2
open L2.My
open Met
/-- tuples and lists are kept -/
def TL (H H' : Hp) : Prop := (∀ b xs, H b = some (.tup xs) → H' b = some (.tup xs)) ∧ ∀ b xs, H b = some (.lst xs) → H' b = some (.lst xs)
theorem TL.of {H H' : Hp} (s : Same H H') : TL H H' := ⟨fun b xs e => s _ _ e, fun b xs e => s _ _ e⟩
theorem TL.trans {H H1 H2 : Hp} (a : TL H H1) (b : TL H1 H2) : TL H H2 := ⟨fun x xs e => b.1 _ _ (a.1 _ _ e), fun x xs e => b.2 _ _ (a.2 _ _ e)⟩
theorem PairAt.tl {H H' : Hp} {a : Addr} {e : Pr} (h : PairAt H a e) (s : TL H H') : PairAt H' a e := s.1 _ _ h
theorem BdAt.tl {H H' : Hp} {a : Addr} {b : Bd} (h : BdAt H a b) (s : TL H H') : BdAt H' a b := s.1 _ _ h
theorem LineAt.tl {H H' : Hp} {t : Addr} {l : Line} (h : LineAt H t l) (s : TL H H') : LineAt H' t l := by
  obtain ⟨a, b, e, x, y⟩ := h
  exact ⟨a, b, s.1 _ _ e, x.tl s, y.tl s⟩
theorem OLine.tl {H H' : Hp} {o : Option Line} {v : V} (h : OLine H o v) (s : TL H H') : OLine H' o v := by
  cases o with
  | none => exact h
  | some l =>
    obtain ⟨t, e, x⟩ := h
    exact ⟨t, e, x.tl s⟩
theorem OLim.tl {H H' : Hp} {o : Option (List Int × List Int)} {v : V} (h : OLim H o v) (s : TL H H') : OLim H' o v := by
  cases o with
  | none => exact h
  | some l =>
    obtain ⟨t, a, b, e, x, y, z⟩ := h
    exact ⟨t, a, b, e, s.1 _ _ x, s.2 _ _ y, s.2 _ _ z⟩
theorem OSpan.tl {H H' : Hp} {o : Option Span} {v : V} (h : OSpan H o v) (s : TL H H') : OSpan H' o v := by
  cases o with
  | none => exact h
  | some l =>
    obtain ⟨t, e, x⟩ := h
    exact ⟨t, e, s.1 _ _ x⟩
theorem OPair.tl {H H' : Hp} {o : Option Pr} {v : V} (h : OPair H o v) (s : TL H H') : OPair H' o v := by
  cases o with
  | none => exact h
  | some l =>
    obtain ⟨t, e, x⟩ := h
    exact ⟨t, e, s.1 _ _ x⟩
theorem PPAt.tl {H H' : Hp} {t : Addr} {p : PP} (h : PPAt H t p) (s : TL H H') : PPAt H' t p := by
  cases p <;> exact s.1 _ _ h
/-- all but the instance at x is kept -/
structure KT (C x : Addr) (H H' : Hp) : Prop where
  ins : ∃ dx fs, H x = some (.ins C dx fs)
  but : ∀ b o, b ≠ x → H b = some o → H' b = some o
theorem KT.tl {C x : Addr} {H H' : Hp} (k : KT C x H H') : TL H H' := by
  obtain ⟨dx, fs, e⟩ := k.ins
  refine ⟨fun b xs h => k.but _ _ ?_ h, fun b xs h => k.but _ _ ?_ h⟩
  all_goals
    intro z
    rw [z, e] at h
    cases h
theorem KT.of {C x dx : Addr} {fs : List (Str × V)} {H H' : Hp} (s : Same H H') (e : H x = some (.ins C dx fs)) : KT C x H H' := ⟨⟨dx, fs, e⟩, fun b o _ h => s _ _ h⟩
theorem KT.put {C x dx : Addr} {fs : List (Str × V)} {H : Hp} {o : HO} (e : H x = some (.ins C dx fs)) : KT C x H (upd H x o) := ⟨⟨dx, fs, e⟩, fun b o n h => by rw [upd_ne n]; exact h⟩
theorem KT.trans {C x : Addr} {H H1 H2 : Hp} (a : KT C x H H1) (b : KT C x H1 H2) : KT C x H H2 := ⟨a.ins, fun y o n h => b.but _ _ n (a.but _ _ n h)⟩
theorem KT.same {C x : Addr} {H0 H H' : Hp} (k : KT C x H H') (s : Same H0 H) (n : H0 x = none) : Same H0 H' := fun b o e => k.but _ _ (by intro z; rw [z, n] at e; cases e) (s _ _ e)
theorem len_putF (f : Str) (v : V) : ∀ fs : List (Str × V), (putF f v fs).length ≤ fs.length + 1
  | [] => Nat.le_refl _
  | (g, x) :: r => by
    show (if g = f then (g, v) :: r else (g, x) :: putF f v r).length ≤ _
    by_cases c : g = f
    · rw [if_pos c]
      simp
    · rw [if_neg c]
      have := len_putF f v r
      simp only [List.length_cons]
      omega
structure CTxt (K : PySem.W.Frag) (C : Addr) : Prop where
  cl : Cls K C
  nP : NoAttr K C "_places"
  nB : NoAttr K C "_bounds"
  nL : NoAttr K C "_line"
  nN : NoAttr K C "_nearest"
  nS : NoAttr K C "_soonest"
  nT : NoAttr K C "_latest"
  nR : NoAttr K C "_span"
  nA : NoAttr K C "_amount"
  nQ : NoAttr K C "_paper"
section
variable {P : Program} {w : World} {K : PySem.W.Frag} {mg : Str → Option Value} {base : Heap}
/-! ### _find_ends -/
def spFind (C : Addr) : Sp := fun vs H Q _ => ∃ a dx fs l s t r, vs = [.ref a] ∧ H a = some (.ins C dx fs) ∧ fs.lookup ("_line" : Str) = some (.ref t) ∧ fs.lookup ("_span" : Str) = some (.ref r) ∧ fs.length ≤ 100 ∧ LineAt H t l ∧ H r = some (.tup [oV s.1, oV s.2]) ∧ LSz l ∧ SSz s ∧
  (l.step.1 ≠ 0 ∨ l.step.2 ≠ 0) ∧ ∀ H' x y z, KT C a H H' → H' a = some (.ins C dx (putF "_amount" (oV (amountOf s)) (putF "_latest" z (putF "_soonest" y (putF "_nearest" x fs))))) →
    OPair H' (least l s (l.step.2 - l.step.1) l.step.2) x → OPair H' (least l s l.step.2 (-l.step.1)) y → OPair H' (least l s (-l.step.1) l.step.2) z → Q .non H'
theorem scFind : FnScope ["self", "line", "span", "earlier", "later"] ["self"] (defScope mFind) := ⟨rfl, rfl, rfl, by decide +kernel, rfl, by decide +kernel, by decide +kernel⟩
theorem ok_find {f fL C : Addr} {fd fdL : FuncData} (F : Fun K "_find_ends" "Meetings._find_ends" mFind f fd) (T : CTxt K C) (dL : Dn P w K mg base CX0 "least_by" ["line", "span", "slopes"] 2 spLeast fL fdL) : FnOk P w K mg base CX0 3 f fd ["self"] (spFind C) := by
  refine F.ok scFind (fun vs H Q E h => ?_) (fun cdv A outer s H vs Q E hr h => ?_)
  · obtain ⟨a, dx, fs, l, s, t, r, rfl, _⟩ := h
    rfl
  · obtain ⟨a, dx, fs, l, sp, t, r, rfl, ea, fl, fr, flen, lt, er, lz, sz, nz, k⟩ := h
    refine ⟨_, pss_cons (ps_par (i := 1) (j := 2) rfl scFind.nd rfl rfl (by decide) rfl rfl (pa_cons (pe_fld (pv 0) rfl) (pa_cons (pe_fld (pv 0) rfl) pa_nil)) (by rfl))
      (pss_cons (ps_asg (pe_ix ix_tup (pv 1) pe_int (fun _ _ => rfl)) (pg_tup rfl (pgs_cons (pg_name (i := 3) scFind.nd rfl (.inl rfl)) (pgs_cons (pg_name (i := 4) scFind.nd rfl (.inl rfl)) pgs_nil))))
      (pss_cons (ps_fld (pv 0) (pe_call dL.G hr rfl dL.g dL.kp dL.b .nil pass0 (pa_cons (pv 1) (pa_cons (pv 2) (pa_cons (pe_tup (pa_cons (pe_op op_sub (pv 4) (pv 3)) (pa_cons (pv 4) pa_nil))) pa_nil)))) rfl)
      (pss_cons (ps_fld (pv 0) (pe_call dL.G hr rfl dL.g dL.kp dL.b .nil pass0 (pa_cons (pv 1) (pa_cons (pv 2) (pa_cons (pe_tup (pa_cons (pv 4) (pa_cons (pe_un un_neg (pv 3)) pa_nil))) pa_nil)))) rfl)
      (pss_cons (ps_fld (pv 0) (pe_call dL.G hr rfl dL.g dL.kp dL.b .nil pass0 (pa_cons (pv 1) (pa_cons (pv 2) (pa_cons (pe_tup (pa_cons (pe_un un_neg (pv 3)) (pa_cons (pv 4) pa_nil))) pa_nil)))) rfl)
      (pss_one (ps_fld (pv 0) (pe_ifExp (PW.pt (pw_or (pt_cmpR op_isN (pe_ix ix_tup (pv 2) pe_int (fun _ _ => rfl)) pe_non (nomark _)) (pw_or1 (pt_cmpR op_isN (pe_ix ix_tup (pv 2) pe_int (fun _ _ => rfl)) pe_non (nomark _))))) pe_non
        (pe_op op_add (pe_op op_sub (pe_ix ix_tup (pv 2) pe_int (fun _ _ => rfl)) (pe_ix ix_tup (pv 2) pe_int (fun _ _ => rfl))) pe_int)) rfl)))))), ?_⟩
    obtain ⟨a1, a2, et, e1, e2⟩ := id lt
    have nz1 : l.step.2 - l.step.1 ≠ 0 ∨ l.step.2 ≠ 0 := by omega
    have nz2 : l.step.2 ≠ 0 ∨ -l.step.1 ≠ 0 := by omega
    have nz3 : -l.step.1 ≠ 0 ∨ l.step.2 ≠ 0 := by omega
    refine ⟨_, rfl, a, C, dx, fs, _, rfl, ea, T.cl, T.nL, fl, _, rfl, a, C, dx, fs, _, rfl, ea, T.cl, T.nR, fr, _, _, rfl, ?_⟩
    refine ⟨_, rfl, t, _, 1, _, rfl, rfl, SqT.of et, atI_nat (j := 1) rfl, a2, _, rfl, SqT.of e2, rfl, _, _, rfl, _, _, rfl, rfl, ?_⟩
    -- nearest
    refine ⟨_, rfl, _, rfl, _, rfl, _, rfl, _, _, rfl, rfl, _, rfl, n_line, fun p1 n1 => ?_⟩
    have s1 := grow (o := .tup [V.int (l.step.2 - l.step.1), V.int l.step.2]) n1
    refine ⟨t, r, p1, l, sp, _, _, rfl, lt.same s1, s1 _ _ er, upd_same, nz1, lz, sz, fun x H2 s2 ox => ?_⟩
    have s12 := s1.trans s2
    have ea2 := s12 _ _ ea
    have k1 : KT C a H (upd H2 a (.ins C dx (putF "_nearest" x fs))) := (KT.of s12 ea).trans (KT.put ea2)
    refine ⟨_, rfl, a, C, dx, _, rfl, ea2, T.cl, T.nN, by omega, ?_⟩
    have ea3 : (upd H2 a (.ins C dx (putF "_nearest" x fs))) a = some (.ins C dx (putF "_nearest" x fs)) := upd_same
    have ox3 := ox.tl (KT.put (C := C) (o := .ins C dx (putF "_nearest" x fs)) ea2).tl
    revert k1 ea3 ox3
    generalize upd H2 a (.ins C dx (putF "_nearest" x fs)) = H3
    intro k1 ea3 ox3
    have l1 := len_putF "_nearest" x fs
    -- soonest
    refine ⟨_, rfl, _, rfl, _, rfl, _, rfl, _, rfl, n_line, fun p4 n4 => ?_⟩
    have s4 := grow (o := .tup [V.int l.step.2, V.int (-l.step.1)]) n4
    refine ⟨t, r, p4, l, sp, _, _, rfl, (lt.tl k1.tl).same s4, s4 _ _ (k1.tl.1 _ _ er), upd_same, nz2, lz, sz, fun y H5 s5 oy => ?_⟩
    have s45 := s4.trans s5
    have ea5 := s45 _ _ ea3
    have k2 : KT C a H3 (upd H5 a (.ins C dx (putF "_soonest" y (putF "_nearest" x fs)))) := (KT.of s45 ea3).trans (KT.put ea5)
    refine ⟨_, rfl, a, C, dx, _, rfl, ea5, T.cl, T.nS, by omega, ?_⟩
    have ea6 : (upd H5 a (.ins C dx (putF "_soonest" y (putF "_nearest" x fs)))) a = some (.ins C dx (putF "_soonest" y (putF "_nearest" x fs))) := upd_same
    have oy6 := oy.tl (KT.put (C := C) (o := .ins C dx (putF "_soonest" y (putF "_nearest" x fs))) ea5).tl
    revert k2 ea6 oy6
    generalize upd H5 a (.ins C dx (putF "_soonest" y (putF "_nearest" x fs))) = H6
    intro k2 ea6 oy6
    have l2 := len_putF "_soonest" y (putF "_nearest" x fs)
    have k12 := k1.trans k2
    -- latest
    refine ⟨_, rfl, _, rfl, _, rfl, _, rfl, _, rfl, n_line, fun p7 n7 => ?_⟩
    have s7 := grow (o := .tup [V.int (-l.step.1), V.int l.step.2]) n7
    refine ⟨t, r, p7, l, sp, _, _, rfl, (lt.tl k12.tl).same s7, s7 _ _ (k12.tl.1 _ _ er), upd_same, nz3, lz, sz, fun z H8 s8 oz => ?_⟩
    have s78 := s7.trans s8
    have ea8 := s78 _ _ ea6
    have k3 : KT C a H6 (upd H8 a (.ins C dx (putF "_latest" z (putF "_soonest" y (putF "_nearest" x fs))))) := (KT.of s78 ea6).trans (KT.put ea8)
    refine ⟨_, rfl, a, C, dx, _, rfl, ea8, T.cl, T.nT, by omega, ?_⟩
    have ea9 : (upd H8 a (.ins C dx (putF "_latest" z (putF "_soonest" y (putF "_nearest" x fs))))) a = some (.ins C dx (putF "_latest" z (putF "_soonest" y (putF "_nearest" x fs)))) := upd_same
    have oz9 := oz.tl (KT.put (C := C) (o := .ins C dx (putF "_latest" z (putF "_soonest" y (putF "_nearest" x fs)))) ea8).tl
    revert k3 ea9 oz9
    generalize upd H8 a (.ins C dx (putF "_latest" z (putF "_soonest" y (putF "_nearest" x fs)))) = H9
    intro k3 ea9 oz9
    have l3 := len_putF "_latest" z (putF "_soonest" y (putF "_nearest" x fs))
    have k13 := k12.trans k3
    have er9 := k13.tl.1 _ _ er
    have fin : ∀ v, v = oV (amountOf sp) → ∃ (a' : Addr) (C' dx' : Addr) (fs' : List (Str × V)), V.ref a = .ref a' ∧ H9 a' = some (.ins C' dx' fs') ∧ Cls K C' ∧ NoAttr K C' "_amount" ∧ fs'.length < 1000 ∧ Q .non (upd H9 a' (.ins C' dx' (putF "_amount" v fs'))) := by
      intro v ev
      subst ev
      refine ⟨a, C, dx, _, rfl, ea9, T.cl, T.nA, by omega, ?_⟩
      have kp := KT.put (C := C) (o := .ins C dx (putF "_amount" (oV (amountOf sp)) (putF "_latest" z (putF "_soonest" y (putF "_nearest" x fs))))) ea9
      exact k _ x y z (k13.trans kp) upd_same (ox3.tl ((k2.trans k3).trans kp).tl) (oy6.tl (k3.trans kp).tl) (oz9.tl kp.tl)
    obtain ⟨m1, m2⟩ := sp
    cases m1 with
    | none =>
      refine ⟨_, rfl, r, _, 0, _, rfl, rfl, SqT.of er9, atI_nat (j := 0) rfl, rfl, _, rfl, iteT (iteT ?_)⟩
      exact ⟨_, rfl, fin .non rfl⟩
    | some u =>
      refine ⟨_, rfl, r, _, 0, _, rfl, rfl, SqT.of er9, atI_nat (j := 0) rfl, rfl, _, rfl, iteF ?_⟩
      cases m2 with
      | none =>
        refine ⟨_, rfl, r, _, 1, _, rfl, rfl, SqT.of er9, atI_nat (j := 1) rfl, rfl, _, rfl, iteT ?_⟩
        exact ⟨_, rfl, fin .non rfl⟩
      | some v =>
        refine ⟨_, rfl, r, _, 1, _, rfl, rfl, SqT.of er9, atI_nat (j := 1) rfl, rfl, _, rfl, iteF ?_⟩
        refine ⟨_, rfl, r, _, 1, _, rfl, rfl, SqT.of er9, atI_nat (j := 1) rfl, _, rfl, r, _, 0, _, rfl, rfl, SqT.of er9, atI_nat (j := 0) rfl, _, _, rfl, rfl, _, _, rfl, rfl, ?_⟩
        exact ⟨_, rfl, fin _ rfl⟩
end
end K11
namespace K11
open PySem L2
open L2.My
open Met
def flds (a b c d e f g h i : V) : List (Str × V) := [("_places", a), ("_bounds", b), ("_line", c), ("_nearest", d), ("_soonest", e), ("_latest", f), ("_span", g), ("_amount", h), ("_paper", i)]
def spanB (p q : Pr) (b : Bd) : Option Span := match lineOf p q with
  | none => none
  | some l => spanOf (limits l b)
/-- what stands in meetings -/
structure MetOf (H : Hp) (p q : Pr) (b : Bd) (ta ba : Addr) (vl vn vs vt vr : V) (t : Addr) : Prop where
  pl : ∃ pa qa, H ta = some (.tup [.ref pa, .ref qa]) ∧ PairAt H pa p ∧ PairAt H qa q
  bd : BdAt H ba b
  li : OLine H (lineOf p q) vl
  ne : OPair H (told p q b).near vn
  so : OPair H (told p q b).soon vs
  la : OPair H (told p q b).late vt
  sp : OSpan H (spanB p q b) vr
  pp : PPAt H t (paperOf p q b)
def MetAt (C : Addr) (H : Hp) (x : Addr) (p q : Pr) (b : Bd) : Prop := ∃ dx ta ba vl vn vs vt vr t, H x = some (.ins C dx (flds (.ref ta) (.ref ba) vl vn vs vt vr (oV (told p q b).amount) (.ref t))) ∧ MetOf H p q b ta ba vl vn vs vt vr t
theorem MetOf.tl {H H' : Hp} {p q : Pr} {b : Bd} {ta ba : Addr} {vl vn vs vt vr : V} {t : Addr} (m : MetOf H p q b ta ba vl vn vs vt vr t) (s : TL H H') : MetOf H' p q b ta ba vl vn vs vt vr t := by
  obtain ⟨⟨pa, qa, e, e1, e2⟩, h1, h2, h3, h4, h5, h6, h7⟩ := m
  exact ⟨⟨pa, qa, s.1 _ _ e, e1.tl s, e2.tl s⟩, h1.tl s, h2.tl s, h3.tl s, h4.tl s, h5.tl s, h6.tl s, h7.tl s⟩
theorem MetAt.same {C x : Addr} {H H' : Hp} {p q : Pr} {b : Bd} (m : MetAt C H x p q b) (s : Same H H') : MetAt C H' x p q b := by
  obtain ⟨dx, ta, ba, vl, vn, vs, vt, vr, t, e, o⟩ := m
  exact ⟨dx, ta, ba, vl, vn, vs, vt, vr, t, s _ _ e, o.tl (.of s)⟩
structure BOk (b : Bd) : Prop where
  bb : BB 300 b
  low : 0 ≤ b.low
  first : 0 ≤ b.first
  rounds : ∀ r, b.rounds = some r → 0 ≤ r
theorem lim_sz {l : Line} {b : Bd} {x : List Int × List Int} (sz : LSz l) (bb : BB 300 b) (h : limits l b = some x) : (∀ k ∈ x.1, B 710 k) ∧ ∀ k ∈ x.2, B 710 k := by
  obtain ⟨s2, e2⟩ := x
  obtain ⟨h1, h2⟩ := limL_of _ _ _ _ _ h
  have b3 : ∀ x ∈ slacks l.base b, B 709 x := fun x m => (slacks_B (n := 705) sz.b1 sz.b2 bb.up (by omega) x m).up
  have mem : ∀ {x : Int × Int}, x ∈ (slacks l.base b).zip (slacks (after l.base l.step 1) b) → B 709 x.1 := fun {x} m => b3 _ (List.of_mem_zip m).1
  refine ⟨fun k m => ?_, fun k m => ?_⟩
  · obtain ⟨y, my, _, rfl⟩ := (h1 k m).resolve_left List.not_mem_nil
    exact (mem my).div.neg.up
  · obtain ⟨y, my, _, rfl⟩ := (h2 k m).resolve_left List.not_mem_nil
    exact (mem my).div.up
theorem span_sz {l : Line} {b : Bd} {s : Span} (sz : LSz l) (bb : BB 300 b) (h : spanOf (limits l b) = some s) : SSz s := by
  cases c : limits l b with
  | none =>
    rw [c] at h
    cases h
  | some x =>
    obtain ⟨b1, b2⟩ := lim_sz sz bb c
    rw [c] at h
    have h : (if Met.gap x.1.max? x.2.min? = true then none else some (x.1.max?, x.2.min?)) = some s := h
    by_cases g : Met.gap x.1.max? x.2.min? = true
    · rw [if_pos g] at h
      cases h
    · rw [if_neg g] at h
      have h := Option.some.inj h
      subst h
      exact ⟨fun a e => b1 a (List.max?_eq_some_iff.mp e).1, fun a e => b2 a (List.min?_eq_some_iff.mp e).1⟩
theorem lm_sz {l : Line} {b : Bd} (sz : LSz l) (bb : BB 300 b) (h : spanOf (limits l b) = none) : LmSz (limits l b) := by
  intro y c
  obtain ⟨b1, b2⟩ := lim_sz sz bb c
  rw [c] at h
  have h : (if Met.gap y.1.max? y.2.min? = true then none else some (y.1.max?, y.2.min?)) = (none : Option Span) := h
  by_cases g : Met.gap y.1.max? y.2.min? = true
  · cases z : y.1.max? with
    | none =>
      rw [z] at g
      cases g
    | some a => exact ⟨a, rfl, b1 a (List.max?_eq_some_iff.mp z).1⟩
  · rw [if_neg g] at h
    cases h
def lmOf (p q : Pr) (b : Bd) : Option (List Int × List Int) := match lineOf p q with
  | none => none
  | some l => limits l b
theorem lm_span (p q : Pr) (b : Bd) : spanOf (lmOf p q b) = spanB p q b := by
  unfold lmOf spanB
  cases lineOf p q <;> rfl
theorem told_none {p q : Pr} {b : Bd} (h : spanB p q b = none) : told p q b = nought ∧ paperOf p q b = (match lineOf p q with | none => PP.modulus (divOf p.1 q.1).g | some l => .gap (gapAt l (lmOf p q b))) := by
  unfold spanB at h
  unfold told paperOf lmOf
  cases hl : lineOf p q with
  | none => exact ⟨rfl, rfl⟩
  | some l =>
    rw [hl] at h
    have h : spanOf (limits l b) = none := h
    simp only [h]
    refine ⟨?_, ?_⟩ <;> first | rfl | trivial
theorem told_some {p q : Pr} {b : Bd} {l : Line} {s : Span} (hl : lineOf p q = some l) (h : spanOf (limits l b) = some s) : told p q b = spanTold l s ∧ paperOf p q b = .near ((least l s (l.step.2 - l.step.1) l.step.2).getD (0, 0)) := by
  unfold told paperOf
  simp only [hl, h]
  refine ⟨?_, ?_⟩ <;> first | rfl | trivial
theorem span_line {p q : Pr} {b : Bd} {s : Span} (h : spanB p q b = some s) : ∃ l, lineOf p q = some l ∧ spanOf (limits l b) = some s := by
  unfold spanB at h
  cases hl : lineOf p q with
  | none =>
    rw [hl] at h
    cases h
  | some l =>
    rw [hl] at h
    exact ⟨l, rfl, h⟩
theorem if_branch {o : Option (List Int × List Int)} {ta tb : TE} {σ : L2.St} {H : Hp} {R : V → Hp → Prop} {c : Bool} (tail : ∀ v H', Same H H' → OLim H' o v → R v H') (h1 : c = true → (∀ v H', Same H H' → OLim H' o v → R v H') → ta σ H R)
    (h2 : c = false → (∀ v H', Same H H' → OLim H' o v → R v H') → tb σ H R) : if c = true then ta σ H R else tb σ H R := by
  cases c with
  | true => exact iteT (h1 rfl tail)
  | false => exact iteF (h2 rfl tail)
theorem pick {c : Prop} [Decidable c] {A R : Prop} (h : R) (h2 : c → R → A) : if decide c = true then A else R := by
  by_cases z : c
  · rw [decide_eq_true z]
    exact iteT (h2 z h)
  · rw [decide_eq_false z]
    exact iteF h
theorem iteFe {c : Bool} {A B : Prop} (h : c = false) (b : B) : if c = true then A else B := by
  rw [h]
  exact iteF b
theorem put_at {C x dx : Addr} {H : Hp} {fs fs' : List (Str × V)} (e : H x = some (.ins C dx fs)) : ∃ H', upd H x (.ins C dx fs') = H' ∧ KT C x H H' ∧ H' x = some (.ins C dx fs') := ⟨_, rfl, KT.put e, upd_same⟩
abbrev kwsI : List (Str × V) := [("low", .int 0), ("high", .non), ("first", .int 0), ("rounds", .non)]
section
variable {P : Program} {w : World} {K : PySem.W.Frag} {mg : Str → Option Value} {base : Heap}
def spInit (C : Addr) : Sp := fun vs H Q _ => ∃ H0 x dx pa qa p q b, vs = [.ref x, .ref pa, .ref qa, .int b.low, oV b.high, .int b.first, oV b.rounds] ∧ Same H0 H ∧ H0 x = none ∧ H x = some (.ins C dx []) ∧ PairAt H pa p ∧ PairAt H qa q ∧ PSz p q ∧ BOk b ∧
  ∀ H', Same H0 H' → MetAt C H' x p q b → Q .non H'
theorem scInit : FnScope ["self", "place", "other", "low", "high", "first", "rounds", "limits"] ["self", "place", "other", "low", "high", "first", "rounds"] (defScope mInit) := ⟨rfl, rfl, rfl, by decide +kernel, rfl, by decide +kernel, by decide +kernel⟩
theorem ok_init {f fW fC fL fM fS fE fF C : Addr} {fd fdW fdC fdL fdM fdS fdE fdF : FuncData} (F : FunD K "__init__" "Meetings.__init__" (defArgs mInit) (defBody mInit) (defScope mInit) [] kwsI f fd) (T : CTxt K C)
    (dW : Dn P w K mg base CX0 "is_wide_place" ["value"] 3 (spWidePl K) fW fdW) (dC : Dn P w K mg base CX0 "check_bounds" ["low", "high", "first", "rounds"] 4 (spChkB K) fC fdC) (dL : Dn P w K mg base CX0 "line_of" ["place", "other"] 2 spLine fL fdL)
    (dM : Dn P w K mg base CX0 "limits_of" ["line", "bounds"] 2 spLimits fM fdM) (dS : Dn P w K mg base CX0 "span_of" ["limits"] 1 spSpan fS fdS) (dE : Dn P w K mg base CX0 "empty_paper" ["place", "other", "line", "limits"] 2 spEmpty fE fdE)
    (GF : FnOk P w K mg base CX0 3 fF fdF ["self"] (spFind C)) (bF : Binds K fdF ["self"] []) (mF : Meth K C "_find_ends" fF) :
    FnOk P w K mg base CX0 5 f fd ["self", "place", "other", "low", "high", "first", "rounds"] (spInit C) := by
  refine F.ok scInit (fun vs H Q E h => ?_) (fun cdv A outer s H vs Q E hr h => ?_)
  · obtain ⟨H0, x, dx, pa, qa, p, q, b, rfl, _⟩ := h
    rfl
  · obtain ⟨H0, x, dx, pa, qa, p, q, b, rfl, s0, nx, ex, ep, eq, ps, bo, k⟩ := h
    have hr3 : Room 3 _ := hr.mono (by decide)
    have hr2 : Room 2 _ := hr.mono (by decide)
    have hr1 : Room 1 _ := hr.mono (by decide)
    refine ⟨_, pss_cons (ps_if (PW.pt (pw_or (pt_not (pt_val (pe_call dW.G hr3 rfl dW.g dW.kp dW.b .nil pass0 (pa_cons (pv 1) pa_nil)))) (pw_or1 (pt_not (pt_val (pe_call dW.G hr3 rfl dW.g dW.kp dW.b .nil pass0 (pa_cons (pv 2) pa_nil))))))) pss_never pss_nil)
      (pss_cons (ps_expr (pe_call dC.G hr rfl dC.g dC.kp dC.b .nil pass0 (pa_cons (pv 3) (pa_cons (pv 4) (pa_cons (pv 5) (pa_cons (pv 6) pa_nil))))))
      (pss_cons (ps_if (PW.pt (pw_and (pt_cmpR op_eq (pe_ix ix_tup (pv 1) pe_int (fun _ _ => rfl)) pe_int (nomark _)) (pw_and1 (pt_cmpR op_eq (pe_ix ix_tup (pv 2) pe_int (fun _ _ => rfl)) pe_int (nomark _))))) pss_never pss_nil)
      (pss_cons (ps_fld (pv 0) (pe_tup (pa_cons (pv 1) (pa_cons (pv 2) pa_nil))) rfl)
      (pss_cons (ps_fld (pv 0) (pe_tup (pa_cons (pv 3) (pa_cons (pv 4) (pa_cons (pv 5) (pa_cons (pv 6) pa_nil))))) rfl)
      (pss_cons (ps_fld (pv 0) (pe_call dL.G hr2 rfl dL.g dL.kp dL.b .nil pass0 (pa_cons (pv 1) (pa_cons (pv 2) pa_nil))) rfl)
      (pss_cons (ps_asg3 pe_non (pg_fld (pv 0)) (pg_fld (pv 0)) (pg_fld (pv 0)))
      (pss_cons (ps_set (i := 7) scInit.nd rfl (.inl rfl) (pe_ifExp (pt_cmpR op_isN (pe_fld (pv 0) rfl) pe_non (nomark _)) pe_non (pe_call dM.G hr2 rfl dM.g dM.kp dM.b .nil pass0 (pa_cons (pe_fld (pv 0) rfl) (pa_cons (pe_fld (pv 0) rfl) pa_nil)))))
      (pss_cons (ps_fld (pv 0) (pe_call dS.G hr1 rfl dS.g dS.kp dS.b .nil pass0 (pa_cons (pv 7) pa_nil)) rfl)
      (pss_one (ps_if (pt_cmpR op_isN (pe_fld (pv 0) rfl) pe_non (nomark _))
        (pss_cons (ps_fld (pv 0) pe_int rfl) (pss_one (ps_fld (pv 0) (pe_call dE.G hr2 rfl dE.g dE.kp dE.b .nil pass0 (pa_cons (pv 1) (pa_cons (pv 2) (pa_cons (pe_fld (pv 0) rfl) (pa_cons (pv 7) pa_nil))))) rfl)))
        (pss_cons (ps_expr (pe_meth0 (pv 0) T.cl mF GF hr3 bF .nil pass0)) (pss_one (ps_fld (pv 0) (pe_tup (pa_cons pe_str (StX.pa_star (pe_fld (pv 0) rfl) pa_nil))) rfl))))))))))))), ?_⟩
    have b1 := bo.bb.low
    -- the checks
    refine ⟨_, rfl, pa, p, rfl, ep, ps.h1, ps.h2, _, rfl, iteF ⟨_, rfl, qa, q, rfl, eq, ps.h3, ps.h4, _, rfl, iteF ?_⟩⟩
    refine ⟨_, rfl, _, rfl, _, rfl, _, rfl, b, rfl, bo.bb, bo.low, bo.first, bo.rounds, ?_⟩
    refine ⟨_, rfl, pa, _, 0, _, rfl, rfl, SqT.of ep, atI_nat (j := 0) rfl, rfl, _, rfl, pick ?_ (fun hc r => ⟨_, rfl, qa, _, 0, _, rfl, rfl, SqT.of eq, atI_nat (j := 0) rfl, rfl, _, rfl, iteFe ?_ r⟩)⟩
    case refine_2 =>
      have z : p.1 = 0 := V.int.inj hc
      have nz := ps.nz
      have z2 : q.1 ≠ 0 := by omega
      exact decide_eq_false fun e => z2 (V.int.inj e)
    -- _places
    refine ⟨_, rfl, _, rfl, n_line, fun ta nta => ?_⟩
    obtain ⟨H1, z1, s1, e1⟩ := mk_at (o := .tup [.ref pa, .ref qa]) nta
    rw [z1]
    have x1 := s1 _ _ ex
    refine ⟨_, rfl, x, C, dx, [], rfl, x1, T.cl, T.nP, (by decide), ?_⟩
    obtain ⟨H2, z2, k2, x2⟩ := put_at (fs' := putF "_places" (.ref ta) []) x1
    rw [z2]
    have t2 : TL H H2 := (TL.of s1).trans k2.tl
    have et2 := k2.tl.1 _ _ e1
    -- _bounds
    refine ⟨_, rfl, _, rfl, _, rfl, _, rfl, n_line, fun ba nba => ?_⟩
    obtain ⟨H3, z3, s3, e3⟩ := mk_at (o := .tup [.int b.low, oV b.high, .int b.first, oV b.rounds]) nba
    rw [z3]
    have x3 := s3 _ _ x2
    refine ⟨_, rfl, x, C, dx, _, rfl, x3, T.cl, T.nB, (by show 1 < 1000; decide), ?_⟩
    obtain ⟨H4, z4, k4, x4⟩ := put_at (fs' := putF "_bounds" (.ref ba) (putF "_places" (.ref ta) [])) x3
    rw [z4]
    have eb4 : BdAt H4 ba b := k4.tl.1 _ _ e3
    have t24 : TL H2 H4 := (TL.of s3).trans k4.tl
    have t4 := t2.trans t24
    have kk4 : KT C x H H4 := ((KT.of s1 ex).trans k2).trans ((KT.of s3 x2).trans k4)
    -- _line
    refine ⟨_, rfl, _, rfl, pa, qa, p, q, rfl, ep.tl t4, eq.tl t4, ps, fun vl H5 s5 ol => ?_⟩
    have x5 := s5 _ _ x4
    refine ⟨_, rfl, x, C, dx, _, rfl, x5, T.cl, T.nL, (by show 2 < 1000; decide), ?_⟩
    obtain ⟨H6, z6, k6, x6⟩ := put_at (fs' := putF "_line" vl (putF "_bounds" (.ref ba) (putF "_places" (.ref ta) []))) x5
    rw [z6]
    have ol6 := ol.tl k6.tl
    have kk6 : KT C x H H6 := kk4.trans ((KT.of s5 x4).trans k6)
    have t46 : TL H4 H6 := (TL.of s5).trans k6.tl
    -- _nearest = _soonest = _latest = None
    refine ⟨_, rfl, x, C, dx, _, rfl, x6, T.cl, T.nN, (by show 3 < 1000; decide), ?_⟩
    obtain ⟨H7, z7, k7, x7⟩ := put_at (fs' := putF "_nearest" .non (putF "_line" vl (putF "_bounds" (.ref ba) (putF "_places" (.ref ta) [])))) x6
    rw [z7]
    refine ⟨_, rfl, x, C, dx, _, rfl, x7, T.cl, T.nS, (by show 4 < 1000; decide), ?_⟩
    obtain ⟨H8, z8, k8, x8⟩ := put_at (fs' := putF "_soonest" .non (putF "_nearest" .non (putF "_line" vl (putF "_bounds" (.ref ba) (putF "_places" (.ref ta) []))))) x7
    rw [z8]
    refine ⟨_, rfl, x, C, dx, _, rfl, x8, T.cl, T.nT, (by show 5 < 1000; decide), ?_⟩
    obtain ⟨H9, z9, k9, x9⟩ := put_at (fs' := [("_places", .ref ta), ("_bounds", .ref ba), ("_line", vl), ("_nearest", .non), ("_soonest", .non), ("_latest", .non)]) x8
    refine (?_ : (_ : Hp → Prop) (upd H8 x (.ins C dx [("_places", .ref ta), ("_bounds", .ref ba), ("_line", vl), ("_nearest", .non), ("_soonest", .non), ("_latest", .non)])))
    rw [z9]
    have k69 := (k7.trans k8).trans k9
    have kk9 := kk6.trans k69
    have t69 := k69.tl
    have t9 := kk9.tl
    have ol9 := ol6.tl t69
    -- limits
    obtain ⟨lm, hlm⟩ : ∃ lm, lm = lmOf p q b := ⟨_, rfl⟩
    refine ⟨_, rfl, x, C, dx, _, vl, rfl, x9, T.cl, T.nL, rfl, rfl, _, rfl, if_branch (o := lm) ?_ (fun hc tl => ?_) (fun hc tl => ?_)⟩
    case refine_2 =>
      have z : vl = .non := of_decide_eq_true hc
      refine tl _ _ (Same.refl _) ?_
      have hl : lineOf p q = none := by
        cases hl : lineOf p q with
        | none => rfl
        | some l =>
          rw [hl] at ol9
          obtain ⟨t, e, _⟩ := ol9
          rw [z] at e
          cases e
      rw [hlm]
      unfold lmOf
      rw [hl]
      rfl
    case refine_3 =>
      have z : vl ≠ .non := of_decide_eq_false hc
      cases hl : lineOf p q with
      | none =>
        rw [hl] at ol9
        exact absurd ol9 z
      | some l =>
        rw [hl] at ol9
        obtain ⟨t, rfl, lt⟩ := ol9
        refine ⟨_, rfl, x, C, dx, _, _, rfl, x9, T.cl, T.nL, rfl, _, rfl, x, C, dx, _, _, rfl, x9, T.cl, T.nB, rfl, t, ba, l, b, rfl, lt, eb4.tl (t46.trans t69), line_sz ps.h1 ps.h2 ps.h3 ps.h4 hl, bo.bb, fun v H' s' o' => tl _ _ s' ?_⟩
        rw [hlm]
        unfold lmOf
        rw [hl]
        exact o'
    intro vm H10 s10 om
    have x10 := s10 _ _ x9
    -- _span
    refine ⟨_, rfl, vm, lm, rfl, om, fun vr H11 s11 os => ?_⟩
    have x11 := s11 _ _ x10
    refine ⟨_, rfl, x, C, dx, _, rfl, x11, T.cl, T.nR, (by show 6 < 1000; decide), ?_⟩
    obtain ⟨H12, z12, k12, x12⟩ := put_at (fs' := putF "_span" vr [("_places", .ref ta), ("_bounds", .ref ba), ("_line", vl), ("_nearest", .non), ("_soonest", .non), ("_latest", .non)]) x11
    rw [z12]
    have k9c : KT C x H9 H12 := ((KT.of s10 x9).trans (KT.of s11 x10)).trans k12
    have t9c := k9c.tl
    have om12 : OLim H12 lm vm := om.tl ((TL.of s11).trans k12.tl)
    have os12 := os.tl k12.tl
    have ol12 := ol9.tl t9c
    have tC := t9.trans t9c
    have et12 := ((t24.trans t46).trans (t69.trans t9c)).1 _ _ et2
    have eb12 := eb4.tl ((t46.trans t69).trans t9c)
    have kkC := kk9.trans k9c
    have esp : spanOf lm = spanB p q b := by
      rw [hlm]
      exact lm_span p q b
    rw [esp] at os12
    cases hs : spanB p q b with
    | none =>
      rw [hs] at os12
      obtain rfl : vr = .non := os12
      obtain ⟨et, ept⟩ := told_none hs
      refine ⟨_, rfl, x, C, dx, _, _, rfl, x12, T.cl, T.nR, rfl, rfl, _, rfl, iteT ?_⟩
      refine ⟨_, rfl, x, C, dx, _, rfl, x12, T.cl, T.nA, (by show 7 < 1000; decide), ?_⟩
      obtain ⟨H13, z13, k13, x13⟩ := put_at (fs' := putF "_amount" (.int 0) [("_places", .ref ta), ("_bounds", .ref ba), ("_line", vl), ("_nearest", .non), ("_soonest", .non), ("_latest", .non), ("_span", .non)]) x12
      refine (?_ : (_ : Hp → Prop) (upd H12 x (.ins C dx (putF "_amount" (.int 0) [("_places", .ref ta), ("_bounds", .ref ba), ("_line", vl), ("_nearest", .non), ("_soonest", .non), ("_latest", .non), ("_span", .non)]))))
      rw [z13]
      have tD := tC.trans k13.tl
      refine ⟨_, rfl, _, rfl, _, rfl, x, C, dx, _, _, rfl, x13, T.cl, T.nL, rfl, _, rfl, pa, qa, p, q, vl, vm, lm, rfl, ep.tl tD, eq.tl tD, ps, ol12.tl k13.tl, fun _ _ => om12.tl k13.tl, ?_, fun t H14 s14 pp => ?_⟩
      · rw [hlm]
        unfold lmOf
        cases hl : lineOf p q with
        | none =>
          intro y e
          cases e
        | some l =>
          refine lm_sz (line_sz ps.h1 ps.h2 ps.h3 ps.h4 hl) bo.bb ?_
          unfold spanB at hs
          rw [hl] at hs
          exact hs
      · have x14 := s14 _ _ x13
        refine ⟨_, rfl, x, C, dx, _, rfl, x14, T.cl, T.nQ, (by show 8 < 1000; decide), ?_⟩
        have k14 := KT.put (C := C) (o := .ins C dx (flds (.ref ta) (.ref ba) vl .non .non .non .non (.int 0) (.ref t))) x14
        have tE : TL H12 _ := (k13.tl.trans (TL.of s14)).trans k14.tl
        refine k _ (((kkC.trans k13).trans ((KT.of s14 x13).trans k14)).same s0 nx) ⟨dx, ta, ba, vl, .non, .non, .non, .non, t, ?_, ⟨pa, qa, tE.1 _ _ et12, ep.tl (tC.trans tE), eq.tl (tC.trans tE)⟩, eb12.tl tE, ol12.tl tE, ?_, ?_, ?_, ?_, ?_⟩
        · rw [et]
          exact upd_same
        · rw [et]
          rfl
        · rw [et]
          rfl
        · rw [et]
          rfl
        · rw [hs]
          rfl
        · rw [ept, ← hlm]
          exact pp.tl k14.tl
    | some sp =>
      rw [hs] at os12
      obtain ⟨r, rfl, er⟩ := os12
      obtain ⟨l, hl, hsp⟩ := span_line hs
      obtain ⟨et, ept⟩ := told_some hl hsp
      obtain ⟨e, he, hn⟩ := paper_near ps.nz hl hsp
      have lsz := line_sz ps.h1 ps.h2 ps.h3 ps.h4 hl
      have ol12' := ol12
      rw [hl] at ol12'
      obtain ⟨tl, rfl, lt⟩ := ol12'
      refine ⟨_, rfl, x, C, dx, _, _, rfl, x12, T.cl, T.nR, rfl, rfl, _, rfl, iteF ?_⟩
      refine ⟨_, rfl, x, dx, _, rfl, x12, rfl, x, dx, _, l, sp, tl, r, rfl, x12, rfl, rfl, (by show 7 ≤ 100; decide), lt, er, lsz, span_sz lsz bo.bb hsp, (line_some ps.nz hl).2, fun H13 vx vy vz k13 x13 o1 o2 o3 => ?_⟩
      have o1' := o1
      rw [he] at o1'
      obtain ⟨tn, rfl, en⟩ := o1'
      refine ⟨_, rfl, x, C, dx, _, _, rfl, x13, T.cl, T.nN, rfl, tn, _, rfl, .inl (SqT.of en), n_line, fun t nt => ?_⟩
      have s14 : Same H13 (upd H13 t (.tup [V.str "nearest", V.int e.1, V.int e.2])) := grow nt
      have e14 : (upd H13 t (.tup [V.str "nearest", V.int e.1, V.int e.2])) t = some (.tup [V.str "nearest", V.int e.1, V.int e.2]) := upd_same
      have x14 := s14 _ _ x13
      refine ⟨_, rfl, x, C, dx, _, rfl, x14, T.cl, T.nQ, (by show 8 < 1000; decide), ?_⟩
      have k14 := KT.put (C := C) (o := .ins C dx (flds (.ref ta) (.ref ba) (.ref tl) (.ref tn) vy vz (.ref r) (oV (amountOf sp)) (.ref t))) x14
      have tE : TL H12 _ := (k13.tl.trans (TL.of s14)).trans k14.tl
      have tF : TL H13 _ := (TL.of s14).trans k14.tl
      refine k _ (((kkC.trans k13).trans ((KT.of s14 x13).trans k14)).same s0 nx) ⟨dx, ta, ba, .ref tl, .ref tn, vy, vz, .ref r, t, ?_, ⟨pa, qa, tE.1 _ _ et12, ep.tl (tC.trans tE), eq.tl (tC.trans tE)⟩, eb12.tl tE, ol12.tl tE, ?_, ?_, ?_, ?_, ?_⟩
      · rw [et]
        exact upd_same
      · rw [et]
        exact o1.tl tF
      · rw [et]
        exact o2.tl tF
      · rw [et]
        exact o3.tl tF
      · rw [hs]
        exact ⟨r, rfl, tE.1 _ _ er⟩
      · rw [ept, he]
        exact (show PPAt _ t (.near e) from e14).tl k14.tl
end
end K11
namespace K11
open PySem L2
open L2.My
open Met
theorem sl_go2 {K : PySem.W.Frag} {H : Hp} {a : Addr} {xs : List V} {lo hi : Option Int} {Q : VK} (e : H a = some (.tup xs)) (k : ∀ b H', Same H H' → H' b = some (.tup (cutV xs lo hi)) → Q (.ref b) H') : rSlA K (.ref a) lo hi H Q := by
  refine ⟨a, xs, rfl, SqT.of e, fun z => k a H (Same.refl H) ?_, fun _ p np => k p _ (grow np) upd_same⟩
  have c : cutV xs lo hi = xs := by
    unfold cutV
    rw [z.1, z.2]
    simp
  rw [c]
  exact e
/-- a property as its readers see it -/
structure Pn (P : Program) (w : World) (K : PySem.W.Frag) (mg : Str → Option Value) (base : Heap) (C : Addr) (x : Str) (sp : Sp) (p g : Addr) (fd : FuncData) : Prop where
  G : FnOk P w K mg base CX0 1 g fd ["self"] sp
  h : PropOf K C x p g
  b : Binds K fd ["self"] []
section
variable {P : Program} {w : World} {K : PySem.W.Frag} {mg : Str → Option Value} {base : Heap}
/-! ### the properties -/
def spGP (C : Addr) : Sp := fun vs H Q _ => ∃ x p q b, vs = [.ref x] ∧ MetAt C H x p q b ∧ ∀ a, PairAt H a p → Q (.ref a) H
def spGO (C : Addr) : Sp := fun vs H Q _ => ∃ x p q b, vs = [.ref x] ∧ MetAt C H x p q b ∧ ∀ a, PairAt H a q → Q (.ref a) H
def spGB (C : Addr) (f : Bd → V) : Sp := fun vs H Q _ => ∃ x p q b, vs = [.ref x] ∧ MetAt C H x p q b ∧ Q (f b) H
def spGN (C : Addr) : Sp := fun vs H Q _ => ∃ x p q b, vs = [.ref x] ∧ MetAt C H x p q b ∧ ∀ v, OPair H (told p q b).near v → Q v H
def spGQ (C : Addr) : Sp := fun vs H Q _ => ∃ x p q b, vs = [.ref x] ∧ MetAt C H x p q b ∧ ∀ t, PPAt H t (paperOf p q b) → Q (.ref t) H
theorem scP : FnScope ["self"] ["self"] (defScope mPlace) := ⟨rfl, rfl, rfl, by decide +kernel, rfl, by decide +kernel, by decide +kernel⟩
theorem ok_gP {f C : Addr} {fd : FuncData} (F : Fun K "place" "Meetings.place" mPlace f fd) (T : CTxt K C) : FnOk P w K mg base CX0 1 f fd ["self"] (spGP C) := by
  refine F.ok scP (fun vs H Q E h => ?_) (fun cdv A outer s H vs Q E hr h => ?_)
  · obtain ⟨x, p, q, b, rfl, _⟩ := h
    rfl
  · obtain ⟨x, p, q, b, rfl, ⟨dx, ta, ba, vl, vn, vs, vt, vr, t, e, o⟩, k⟩ := h
    obtain ⟨pa, qa, et, ep, eq⟩ := o.pl
    refine ⟨_, pss_one (ps_ret (pe_ix ix_tup (pe_fld (pv 0) rfl) pe_int (fun _ _ => rfl))), ?_⟩
    exact ⟨_, rfl, x, C, dx, _, _, rfl, e, T.cl, T.nP, rfl, ta, _, 0, _, rfl, rfl, SqT.of et, atI_nat (j := 0) rfl, k pa ep⟩
theorem scO : FnScope ["self"] ["self"] (defScope mOther) := ⟨rfl, rfl, rfl, by decide +kernel, rfl, by decide +kernel, by decide +kernel⟩
theorem ok_gO {f C : Addr} {fd : FuncData} (F : Fun K "other" "Meetings.other" mOther f fd) (T : CTxt K C) : FnOk P w K mg base CX0 1 f fd ["self"] (spGO C) := by
  refine F.ok scO (fun vs H Q E h => ?_) (fun cdv A outer s H vs Q E hr h => ?_)
  · obtain ⟨x, p, q, b, rfl, _⟩ := h
    rfl
  · obtain ⟨x, p, q, b, rfl, ⟨dx, ta, ba, vl, vn, vs, vt, vr, t, e, o⟩, k⟩ := h
    obtain ⟨pa, qa, et, ep, eq⟩ := o.pl
    refine ⟨_, pss_one (ps_ret (pe_ix ix_tup (pe_fld (pv 0) rfl) pe_int (fun _ _ => rfl))), ?_⟩
    exact ⟨_, rfl, x, C, dx, _, _, rfl, e, T.cl, T.nP, rfl, ta, _, 1, _, rfl, rfl, SqT.of et, atI_nat (j := 1) rfl, k qa eq⟩
theorem scLo : FnScope ["self"] ["self"] (defScope mLow) := ⟨rfl, rfl, rfl, by decide +kernel, rfl, by decide +kernel, by decide +kernel⟩
theorem ok_gLo {f C : Addr} {fd : FuncData} (F : Fun K "low" "Meetings.low" mLow f fd) (T : CTxt K C) : FnOk P w K mg base CX0 1 f fd ["self"] (spGB C (fun b => .int b.low)) := by
  refine F.ok scLo (fun vs H Q E h => ?_) (fun cdv A outer s H vs Q E hr h => ?_)
  · obtain ⟨x, p, q, b, rfl, _⟩ := h
    rfl
  · obtain ⟨x, p, q, b, rfl, ⟨dx, ta, ba, vl, vn, vs, vt, vr, t, e, o⟩, k⟩ := h
    refine ⟨_, pss_one (ps_ret (pe_ix ix_tup (pe_fld (pv 0) rfl) pe_int (fun _ _ => rfl))), ?_⟩
    exact ⟨_, rfl, x, C, dx, _, _, rfl, e, T.cl, T.nB, rfl, ba, _, 0, _, rfl, rfl, SqT.of o.bd, atI_nat (j := 0) rfl, k⟩
theorem scHi : FnScope ["self"] ["self"] (defScope mHigh) := ⟨rfl, rfl, rfl, by decide +kernel, rfl, by decide +kernel, by decide +kernel⟩
theorem ok_gHi {f C : Addr} {fd : FuncData} (F : Fun K "high" "Meetings.high" mHigh f fd) (T : CTxt K C) : FnOk P w K mg base CX0 1 f fd ["self"] (spGB C (fun b => oV b.high)) := by
  refine F.ok scHi (fun vs H Q E h => ?_) (fun cdv A outer s H vs Q E hr h => ?_)
  · obtain ⟨x, p, q, b, rfl, _⟩ := h
    rfl
  · obtain ⟨x, p, q, b, rfl, ⟨dx, ta, ba, vl, vn, vs, vt, vr, t, e, o⟩, k⟩ := h
    refine ⟨_, pss_one (ps_ret (pe_ix ix_tup (pe_fld (pv 0) rfl) pe_int (fun _ _ => rfl))), ?_⟩
    exact ⟨_, rfl, x, C, dx, _, _, rfl, e, T.cl, T.nB, rfl, ba, _, 1, _, rfl, rfl, SqT.of o.bd, atI_nat (j := 1) rfl, k⟩
theorem scFi : FnScope ["self"] ["self"] (defScope mFirst) := ⟨rfl, rfl, rfl, by decide +kernel, rfl, by decide +kernel, by decide +kernel⟩
theorem ok_gFi {f C : Addr} {fd : FuncData} (F : Fun K "first" "Meetings.first" mFirst f fd) (T : CTxt K C) : FnOk P w K mg base CX0 1 f fd ["self"] (spGB C (fun b => .int b.first)) := by
  refine F.ok scFi (fun vs H Q E h => ?_) (fun cdv A outer s H vs Q E hr h => ?_)
  · obtain ⟨x, p, q, b, rfl, _⟩ := h
    rfl
  · obtain ⟨x, p, q, b, rfl, ⟨dx, ta, ba, vl, vn, vs, vt, vr, t, e, o⟩, k⟩ := h
    refine ⟨_, pss_one (ps_ret (pe_ix ix_tup (pe_fld (pv 0) rfl) pe_int (fun _ _ => rfl))), ?_⟩
    exact ⟨_, rfl, x, C, dx, _, _, rfl, e, T.cl, T.nB, rfl, ba, _, 2, _, rfl, rfl, SqT.of o.bd, atI_nat (j := 2) rfl, k⟩
theorem scRo : FnScope ["self"] ["self"] (defScope mRounds) := ⟨rfl, rfl, rfl, by decide +kernel, rfl, by decide +kernel, by decide +kernel⟩
theorem ok_gRo {f C : Addr} {fd : FuncData} (F : Fun K "rounds" "Meetings.rounds" mRounds f fd) (T : CTxt K C) : FnOk P w K mg base CX0 1 f fd ["self"] (spGB C (fun b => oV b.rounds)) := by
  refine F.ok scRo (fun vs H Q E h => ?_) (fun cdv A outer s H vs Q E hr h => ?_)
  · obtain ⟨x, p, q, b, rfl, _⟩ := h
    rfl
  · obtain ⟨x, p, q, b, rfl, ⟨dx, ta, ba, vl, vn, vs, vt, vr, t, e, o⟩, k⟩ := h
    refine ⟨_, pss_one (ps_ret (pe_ix ix_tup (pe_fld (pv 0) rfl) pe_int (fun _ _ => rfl))), ?_⟩
    exact ⟨_, rfl, x, C, dx, _, _, rfl, e, T.cl, T.nB, rfl, ba, _, 3, _, rfl, rfl, SqT.of o.bd, atI_nat (j := 3) rfl, k⟩
theorem scNe : FnScope ["self"] ["self"] (defScope mNearest) := ⟨rfl, rfl, rfl, by decide +kernel, rfl, by decide +kernel, by decide +kernel⟩
theorem ok_gN {f C : Addr} {fd : FuncData} (F : Fun K "nearest" "Meetings.nearest" mNearest f fd) (T : CTxt K C) : FnOk P w K mg base CX0 1 f fd ["self"] (spGN C) := by
  refine F.ok scNe (fun vs H Q E h => ?_) (fun cdv A outer s H vs Q E hr h => ?_)
  · obtain ⟨x, p, q, b, rfl, _⟩ := h
    rfl
  · obtain ⟨x, p, q, b, rfl, ⟨dx, ta, ba, vl, vn, vs, vt, vr, t, e, o⟩, k⟩ := h
    refine ⟨_, pss_one (ps_ret (pe_fld (pv 0) rfl)), ?_⟩
    exact ⟨_, rfl, x, C, dx, _, _, rfl, e, T.cl, T.nN, rfl, k _ o.ne⟩
theorem scPa : FnScope ["self"] ["self"] (defScope mPaper) := ⟨rfl, rfl, rfl, by decide +kernel, rfl, by decide +kernel, by decide +kernel⟩
theorem ok_gQ {f C : Addr} {fd : FuncData} (F : Fun K "paper" "Meetings.paper" mPaper f fd) (T : CTxt K C) : FnOk P w K mg base CX0 1 f fd ["self"] (spGQ C) := by
  refine F.ok scPa (fun vs H Q E h => ?_) (fun cdv A outer s H vs Q E hr h => ?_)
  · obtain ⟨x, p, q, b, rfl, _⟩ := h
    rfl
  · obtain ⟨x, p, q, b, rfl, ⟨dx, ta, ba, vl, vn, vs, vt, vr, t, e, o⟩, k⟩ := h
    refine ⟨_, pss_one (ps_ret (pe_fld (pv 0) rfl)), ?_⟩
    exact ⟨_, rfl, x, C, dx, _, _, rfl, e, T.cl, T.nQ, rfl, k _ o.pp⟩
theorem scBo : FnScope ["self"] ["self"] (defScope mBool) := ⟨rfl, rfl, rfl, by decide +kernel, rfl, by decide +kernel, by decide +kernel⟩
def spGT (C : Addr) : Sp := fun vs H Q _ => ∃ x p q b, vs = [.ref x] ∧ MetAt C H x p q b ∧ Q (.bl (told p q b).near.isSome) H
theorem ok_bool {f C : Addr} {fd : FuncData} (F : Fun K "__bool__" "Meetings.__bool__" mBool f fd) (T : CTxt K C) : FnOk P w K mg base CX0 1 f fd ["self"] (spGT C) := by
  refine F.ok scBo (fun vs H Q E h => ?_) (fun cdv A outer s H vs Q E hr h => ?_)
  · obtain ⟨x, p, q, b, rfl, _⟩ := h
    rfl
  · obtain ⟨x, p, q, b, rfl, ⟨dx, ta, ba, vl, vn, vs, vt, vr, t, e, o⟩, k⟩ := h
    refine ⟨_, pss_one (ps_ret (pe_cmpR op_notN (pe_fld (pv 0) rfl) pe_non (nomark _))), ?_⟩
    refine ⟨_, rfl, x, C, dx, _, _, rfl, e, T.cl, T.nN, rfl, rfl, ?_⟩
    have on := o.ne
    generalize (told p q b).near = z at on k
    cases z with
    | none =>
      obtain rfl : vn = .non := on
      exact k
    | some y =>
      obtain ⟨a, rfl, _⟩ := on
      exact k
end
end K11
namespace K11
open PySem L2
open L2.My
open Met
section
variable {P : Program} {w : World} {K : PySem.W.Frag} {mg : Str → Option Value} {base : Heap}
/-! ### is_modulus -/
def modO (p q : Pr) : Option Int → Bool
  | some m => modB p q m
  | none => false
def spModulus (K : PySem.W.Frag) : Sp := fun vs H Q _ => ∃ x a b o p q, vs = [x, .ref a, .ref b] ∧ Item K H x o ∧ PairAt H a p ∧ PairAt H b q ∧ Q (.bl (modO p q o)) H
theorem scModulus : FnScope ["value", "place", "other"] ["value", "place", "other"] (defScope tModulus) := ⟨rfl, rfl, rfl, by decide +kernel, rfl, by decide +kernel, by decide +kernel⟩
theorem ok_modulus {f fW : Addr} {fd fdW : FuncData} (F : Fun K "is_modulus" "is_modulus" tModulus f fd) (dW : Dn P w K mg base CX0 "is_whole" ["value"] 1 (spWhole K) fW fdW) : FnOk P w K mg base CX0 2 f fd ["value", "place", "other"] (spModulus K) := by
  refine F.ok scModulus (fun vs H Q E h => ?_) (fun cdv A outer s H vs Q E hr h => ?_)
  · obtain ⟨x, a, b, o, p, q, rfl, _⟩ := h
    rfl
  · obtain ⟨x, a, b, o, p, q, rfl, it, ep, eq, k⟩ := h
    refine ⟨_, pss_cons (ps_if (PW.pt (pw_or (pt_not (pt_val (pe_call dW.G hr rfl dW.g dW.kp dW.b .nil pass0 (pa_cons (pv 0) pa_nil)))) (pw_or (pt_cmpR op_lt (pv 0) pe_int (nomark _))
        (pw_or (pt_cmpR op_ne (pe_op op_modN (pe_ix ix_tup (pv 1) pe_int (fun _ _ => rfl)) (pv 0)) pe_int (nomark _)) (pw_or1 (pt_cmpR op_ne (pe_op op_modN (pe_ix ix_tup (pv 2) pe_int (fun _ _ => rfl)) (pv 0)) pe_int (nomark _))))))) (pss_one (ps_ret pe_bl)) pss_nil)
      (pss_one (ps_ret (pe_cmpR op_ne (pe_op op_modN (pe_op op_sub (pe_ix ix_tup (pv 2) pe_int (fun _ _ => rfl)) (pe_ix ix_tup (pv 1) pe_int (fun _ _ => rfl))) (pv 0)) pe_int (nomark _)))), ?_⟩
    refine ⟨_, rfl, x, o, rfl, it, _, rfl, ?_⟩
    cases it with
    | other t m => exact iteT (iteT k)
    | int m =>
      refine iteF ⟨_, rfl, _, _, rfl, rfl, _, rfl, ?_⟩
      have k : Q (.bl (decide (2 ≤ m) && (decide (p.1.fmod m = 0) && (decide (q.1.fmod m = 0) && decide ((q.2 - p.2).fmod m ≠ 0))))) H := k
      by_cases c : m < 2
      · rw [decide_eq_true c]
        rw [decide_eq_false (show ¬ 2 ≤ m by omega)] at k
        exact iteT (iteT k)
      · rw [decide_eq_false c]
        rw [decide_eq_true (show 2 ≤ m by omega)] at k
        have m0 : m ≠ 0 := by omega
        refine iteF ⟨_, rfl, a, _, 0, _, rfl, rfl, SqT.of ep, atI_nat (j := 0) rfl, _, rfl, _, _, rfl, rfl, m0, rfl, _, rfl, ?_⟩
        by_cases c1 : p.1.fmod m = 0
        · rw [decide_eq_true c1] at k
          refine iteFe (by simp [c1]) ⟨_, rfl, b, _, 0, _, rfl, rfl, SqT.of eq, atI_nat (j := 0) rfl, _, rfl, _, _, rfl, rfl, m0, rfl, _, rfl, ?_⟩
          by_cases c2 : q.1.fmod m = 0
          · rw [decide_eq_true c2] at k
            refine iteFe (by simp [c2]) ⟨_, rfl, b, _, 1, _, rfl, rfl, SqT.of eq, atI_nat (j := 1) rfl, _, rfl, a, _, 1, _, rfl, rfl, SqT.of ep, atI_nat (j := 1) rfl, _, _, rfl, rfl, _, rfl, _, _, rfl, rfl, m0, rfl, ?_⟩
            have e : (!decide (V.int ((q.2 - p.2).fmod m) = V.int 0)) = decide ((q.2 - p.2).fmod m ≠ 0) := by
              rw [Bool.eq_iff_iff]
              simp
            show Q (.bl (!decide (V.int ((q.2 - p.2).fmod m) = V.int 0))) H
            rw [e]
            exact k
          · rw [decide_eq_false c2] at k
            have ce : (!decide (V.int (q.1.fmod m) = V.int 0)) = true := by simp [c2]
            rw [ce]
            exact iteT k
        · rw [decide_eq_false c1] at k
          have ce : (!decide (V.int (p.1.fmod m) = V.int 0)) = true := by simp [c1]
          rw [ce]
          exact iteT (iteT k)
/-! ### is_gap -/
def gapO (p q : Pr) (b : Bd) : Option (Option Int × Option Int) → Bool
  | some (some i, some j) => gapB p q b (i, j)
  | _ => false
structure GProps (P : Program) (w : World) (K : PySem.W.Frag) (mg : Str → Option Value) (base : Heap) (C aP gP aO gO aL gL aH gH aF gF aR gR : Addr) (fdP fdO fdL fdH fdF fdR : FuncData) : Prop where
  pl : Pn P w K mg base C "place" (spGP C) aP gP fdP
  ot : Pn P w K mg base C "other" (spGO C) aO gO fdO
  lo : Pn P w K mg base C "low" (spGB C (fun b => .int b.low)) aL gL fdL
  hi : Pn P w K mg base C "high" (spGB C (fun b => oV b.high)) aH gH fdH
  fi : Pn P w K mg base C "first" (spGB C (fun b => .int b.first)) aF gF fdF
  ro : Pn P w K mg base C "rounds" (spGB C (fun b => oV b.rounds)) aR gR fdR
structure GTxt (mg : Str → Option Value) : Prop where
  zip : mg "zip" = none
  any : mg "any" = none
def spGap (K : PySem.W.Frag) (C : Addr) : Sp := fun vs H Q _ => ∃ xp x o p q b, vs = [xp, .ref x] ∧ Two K H xp o ∧ (∀ i j, o = some (some i, some j) → B 1500 i ∧ B 1500 j) ∧ MetAt C H x p q b ∧ PSz p q ∧ BOk b ∧ ∀ H', Same H H' → Q (.bl (gapO p q b o)) H'
theorem any_map_id {α : Type} (f : α → Bool) (xs : List α) : (xs.map f).any id = xs.any f := by
  rw [List.any_map]
  rfl
theorem pairs_take {xs ys : List Int} {i : Nat} {m n : Int} (f : Int × Int → Bool) (hm : xs[i]? = some m) (hn : ys[i]? = some n) :
    (((xs.zip ys).take (i + 1)).map f).map V.bl = (((xs.zip ys).take i).map f).map V.bl ++ [V.bl (f (m, n))] := by
  have hz : (xs.zip ys)[i]? = some (m, n) := by
    rw [List.getElem?_zip_eq_some]
    exact ⟨hm, hn⟩
  rw [take_step hz, List.map_append, List.map_append]
  rfl
theorem scGap : FnScope ["pair", "meetings", "place", "other", "divisor", "_", "step", "bounds", "here", "then", "before", "slack", "next_slack", "behind"] ["pair", "meetings"] (defScope tGap) := ⟨rfl, rfl, rfl, by decide +kernel, rfl, by decide +kernel, by decide +kernel⟩
abbrev nGap : List Str := ["pair", "meetings", "place", "other", "divisor", "_", "step", "bounds", "here", "then", "before", "slack", "next_slack", "behind"]
theorem ok_gap {f C fP fD fS fA aP gP aO gO aL gL aH gH aF gF aR gR : Addr} {fd fdP fdD fdS fdA fP' fO' fL' fH' fF' fR' : FuncData} (F : Fun K "is_gap" "is_gap" tGap f fd) (T : CTxt K C) (G : GTxt mg)
    (R : GProps P w K mg base C aP gP aO gO aL gL aH gH aF gF aR gR fP' fO' fL' fH' fF' fR') (dP : Dn P w K mg base CX0 "is_pair" ["value"] 2 (spPair K) fP fdP) (dD : Dn P w K mg base CX0 "divisor_of" ["one", "other"] 1 spDiv fD fdD)
    (dS : Dn P w K mg base CX0 "slacks" ["pair", "bounds"] 1 spSlacks fS fdS) (dA : Dn P w K mg base CX0 "after" ["pair", "step", "times"] 1 spAfter fA fdA) : FnOk P w K mg base CX0 3 f fd ["pair", "meetings"] (spGap K C) := by
  refine F.ok scGap (fun vs H Q E h => ?_) (fun cdv A outer s H vs Q E hr h => ?_)
  · obtain ⟨xp, x, o, p, q, b, rfl, _⟩ := h
    rfl
  · obtain ⟨xp, x, o, p, q, b, rfl, it, ob, met, ps, bo, k⟩ := h
    have hr1 : Room 1 _ := hr.mono (by decide)
    refine ⟨_, pss_cons (ps_par (i := 2) (j := 3) rfl scGap.nd rfl rfl (by decide) rfl rfl (pa_cons (pe_prop (pv 1) T.cl R.pl.h R.pl.G hr R.pl.b .nil pass0 rfl) (pa_cons (pe_prop (pv 1) T.cl R.ot.h R.ot.G hr R.ot.b .nil pass0 rfl) pa_nil)) (by rfl))
      (pss_cons (ps_if (PW.pt (pw_or (pt_not (pt_val (pe_call dP.G hr rfl dP.g dP.kp dP.b .nil pass0 (pa_cons (pv 0) pa_nil))))
          (pw_or1 (pt_cmpR op_ne (pe_op op_add (pe_op op_mulW (pe_ix ix_tup (pv 2) pe_int (fun _ _ => rfl)) (pe_ix ix_tup (pv 0) pe_int (fun _ _ => rfl))) (pe_ix ix_tup (pv 2) pe_int (fun _ _ => rfl)))
            (pe_op op_add (pe_op op_mulW (pe_ix ix_tup (pv 3) pe_int (fun _ _ => rfl)) (pe_ix ix_tup (pv 0) pe_int (fun _ _ => rfl))) (pe_ix ix_tup (pv 3) pe_int (fun _ _ => rfl))) (nomark _))))) (pss_one (ps_ret pe_bl)) pss_nil)
      (pss_cons (ps_asg (pe_call dD.G hr1 rfl dD.g dD.kp dD.b .nil pass0 (pa_cons (pe_ix ix_tup (pv 2) pe_int (fun _ _ => rfl)) (pa_cons (pe_ix ix_tup (pv 3) pe_int (fun _ _ => rfl)) pa_nil)))
        (pg_tup rfl (pgs_cons (pg_name (i := 4) scGap.nd rfl (.inl rfl)) (pgs_cons (pg_name (i := 5) scGap.nd rfl (.inl rfl)) (pgs_cons (pg_name (i := 5) scGap.nd rfl (.inl rfl)) pgs_nil)))))
      (pss_cons (ps_set (i := 6) scGap.nd rfl (.inl rfl) (pe_tup (pa_cons (pe_op op_fdivW (pe_ix ix_tup (pv 3) pe_int (fun _ _ => rfl)) (pv 4)) (pa_cons (pe_op op_fdivW (pe_ix ix_tup (pv 2) pe_int (fun _ _ => rfl)) (pv 4)) pa_nil))))
      (pss_cons (ps_set (i := 7) scGap.nd rfl (.inl rfl) (pe_tup (pa_cons (pe_prop (pv 1) T.cl R.lo.h R.lo.G hr R.lo.b .nil pass0 rfl) (pa_cons (pe_prop (pv 1) T.cl R.hi.h R.hi.G hr R.hi.b .nil pass0 rfl) (pa_cons (pe_prop (pv 1) T.cl R.fi.h R.fi.G hr R.fi.b .nil pass0 rfl) (pa_cons (pe_prop (pv 1) T.cl R.ro.h R.ro.G hr R.ro.b .nil pass0 rfl) pa_nil))))))
      (pss_cons (ps_par (i := 8) (j := 9) rfl scGap.nd rfl rfl (by decide) rfl rfl (pa_cons (pe_call dS.G hr1 rfl dS.g dS.kp dS.b .nil pass0 (pa_cons (pv 0) (pa_cons (pv 7) pa_nil)))
        (pa_cons (pe_call dS.G hr1 rfl dS.g dS.kp dS.b .nil pass0 (pa_cons (pe_call dA.G hr1 rfl dA.g dA.kp dA.b .nil pass0 (pa_cons (pv 0) (pa_cons (pv 6) (pa_cons pe_int pa_nil)))) (pa_cons (pv 7) pa_nil))) pa_nil)) (by rfl))
      (pss_cons (ps_set (i := 10) scGap.nd rfl (.inl rfl) (pe_callB (cr_any (by rfl)) (by rfl) G.any (by decide +kernel) (pa_cons (pe_lc (own := [("slack", 11), ("next_slack", 12)]) (g := gTup K 2 (gCons (gName 11) (gCons (gName 12) gNil))) (tt := tYes) (by rfl) scGap.nd (RZ.pi_zipA rfl G.zip (pa_cons (pv 8) (pa_cons (pv 9) pa_nil)))
        (blkOk_by (own := [("slack", 11), ("next_slack", 12)]) (N := nGap) (sc := defScope tGap) (by decide +kernel))
        (fun _ _ _ _ _ => pg_tup rfl (pgs_cons (pg_name (i := 11) scGap.nd rfl (.inl rfl)) (pgs_cons (pg_name (i := 12) scGap.nd rfl (.inl rfl)) pgs_nil))) (fun _ _ _ _ _ => pts_nil)
        (fun _ _ _ _ _ => pe_and (pe_cmpR op_lt (pv 11) pe_int (nomark _)) (pe_one (pe_cmpR op_le (pv 11) (pv 12) (nomark _))))) pa_nil)))
      (pss_cons (ps_set (i := 13) scGap.nd rfl (.inl rfl) (pe_callB (cr_any (by rfl)) (by rfl) G.any (by decide +kernel) (pa_cons (pe_lc (own := [("slack", 11), ("next_slack", 12)]) (g := gTup K 2 (gCons (gName 11) (gCons (gName 12) gNil))) (tt := tYes) (by rfl) scGap.nd (RZ.pi_zipA rfl G.zip (pa_cons (pv 8) (pa_cons (pv 9) pa_nil)))
        (blkOk_by (own := [("slack", 11), ("next_slack", 12)]) (N := nGap) (sc := defScope tGap) (by decide +kernel))
        (fun _ _ _ _ _ => pg_tup rfl (pgs_cons (pg_name (i := 11) scGap.nd rfl (.inl rfl)) (pgs_cons (pg_name (i := 12) scGap.nd rfl (.inl rfl)) pgs_nil))) (fun _ _ _ _ _ => pts_nil)
        (fun _ _ _ _ _ => pe_and (pe_cmpR op_lt (pv 12) pe_int (nomark _)) (pe_one (pe_cmpR op_le (pv 12) (pv 11) (nomark _))))) pa_nil)))
      (pss_one (ps_ret (pe_and (pv 10) (pe_one (pv 13)))))))))))), ?_⟩
    obtain ⟨dx, ta, ba, vl, vn, vs, vt, vr, t, ex, o'⟩ := id met
    refine ⟨_, rfl, x, dx, _, rfl, ex, x, p, q, b, rfl, met, fun pa ep => ?_⟩
    refine ⟨_, rfl, x, dx, _, rfl, ex, x, p, q, b, rfl, met, fun qa eq => ⟨_, _, rfl, ?_⟩⟩
    refine ⟨_, rfl, xp, o, rfl, it, _, rfl, ?_⟩
    cases it with
    | no t m => exact iteT (iteT (k _ (Same.refl _)))
    | tup e l => exact iteT (iteT (k _ (Same.refl _)))
    | @two a y z oy oz e hy hz =>
      cases hy with
      | other t m => exact iteT (iteT (k _ (Same.refl _)))
      | int i =>
      cases hz with
      | other t m => exact iteT (iteT (k _ (Same.refl _)))
      | int j =>
        obtain ⟨bi, bj⟩ := ob i j rfl
        have k : ∀ H', Same H H' → Q (.bl (meetB p q (i, j) && (lackB (pairsOf p q b (i, j)) && lackA (pairsOf p q b (i, j))))) H' := k
        have e : PairAt H a (i, j) := e
        refine iteF ⟨_, rfl, pa, _, 0, _, rfl, rfl, SqT.of ep, atI_nat (j := 0) rfl, _, rfl, a, _, 0, _, rfl, rfl, SqT.of e, atI_nat (j := 0) rfl, _, _, rfl, rfl, ps.h1.ml bi, _, rfl, pa, _, 1, _, rfl, rfl, SqT.of ep, atI_nat (j := 1) rfl, _, _, rfl, rfl, ?_⟩
        refine ⟨_, rfl, qa, _, 0, _, rfl, rfl, SqT.of eq, atI_nat (j := 0) rfl, _, rfl, a, _, 1, _, rfl, rfl, SqT.of e, atI_nat (j := 1) rfl, _, _, rfl, rfl, ps.h3.ml bj, _, rfl, qa, _, 1, _, rfl, rfl, SqT.of eq, atI_nat (j := 1) rfl, _, _, rfl, rfl, rfl, _, rfl, ?_⟩
        by_cases c : p.1 * i + p.2 = q.1 * j + q.2
        case neg =>
          have ce : (!decide (V.int (p.1 * i + p.2) = V.int (q.1 * j + q.2))) = true := by simp [c]
          rw [show meetB p q (i, j) = false from decide_eq_false c] at k
          rw [ce]
          exact iteT (k _ (Same.refl _))
        rw [show meetB p q (i, j) = true from decide_eq_true c] at k
        refine iteFe (by simp [c]) ?_
        have L := lim403 (ps.h1.up (m := 400)) (ps.h3.up (m := 400))
        have D := divOf_lim p.1 q.1
        have O := divOf_ok ps.nz
        refine ⟨_, rfl, pa, _, 0, _, rfl, rfl, SqT.of ep, atI_nat (j := 0) rfl, _, rfl, qa, _, 0, _, rfl, rfl, SqT.of eq, atI_nat (j := 0) rfl, p.1, q.1, rfl, ps.h1.up, ps.h3.up, ps.nz, fun t1 H1 s1 et => ?_⟩
        unfold pairsOf stepOf at k
        generalize divOf p.1 q.1 = d at D O et k
        have bg : B 403 d.g := B.lim D.g L
        have pos := O.pos
        refine ⟨t1, _, rfl, SqT.of et, rfl, _, _, rfl, _, _, rfl, _, _, rfl, rfl, ?_⟩
        refine ⟨_, rfl, qa, _, 0, _, rfl, rfl, SqT.of (s1 _ _ eq), atI_nat (j := 0) rfl, _, rfl, _, _, rfl, rfl, bg.dw pos, _, rfl, pa, _, 0, _, rfl, rfl, SqT.of (s1 _ _ ep), atI_nat (j := 0) rfl, _, rfl, _, _, rfl, rfl, bg.dw pos, n_line, fun st nst => ?_⟩
        obtain ⟨H2, z2, s2, e2⟩ := mk_at (o := .tup [V.int (q.1 / d.g), V.int (p.1 / d.g)]) nst
        rw [z2]
        have e2 : PairAt H2 st (q.1 / d.g, p.1 / d.g) := e2
        generalize he : (q.1 / d.g, p.1 / d.g) = stp at e2 k
        have bs1 : B 300 stp.1 := by
          rw [← he]
          exact ps.h3.div
        have bs2 : B 300 stp.2 := by
          rw [← he]
          exact ps.h1.div
        have m2 := met.same (s1.trans s2)
        have ex2 := (s1.trans s2) _ _ ex
        refine ⟨_, rfl, x, dx, _, rfl, ex2, x, p, q, b, rfl, m2, _, rfl, x, dx, _, rfl, ex2, x, p, q, b, rfl, m2, _, rfl, x, dx, _, rfl, ex2, x, p, q, b, rfl, m2, _, rfl, x, dx, _, rfl, ex2, x, p, q, b, rfl, m2, n_line, fun bt nbt => ?_⟩
        obtain ⟨H3, z3, s3, e3⟩ := mk_at (o := .tup [V.int b.low, oV b.high, V.int b.first, oV b.rounds]) nbt
        refine (?_ : (_ : Hp → Prop) (upd H2 bt (.tup [V.int b.low, oV b.high, V.int b.first, oV b.rounds])))
        rw [z3]
        have eb3 : BdAt H3 bt b := e3
        have s13 := s1.trans (s2.trans s3)
        refine ⟨_, rfl, _, rfl, a, bt, (i, j), b, rfl, e.same s13, eb3, fun p1 H4 s4 l1 => ?_⟩
        have s14 := s13.trans s4
        refine ⟨_, rfl, _, rfl, a, st, (i, j), stp, 1, rfl, e.same s14, e2.same (s3.trans s4), bs1.up, bs2.up, .one, fun p2 H5 s5 ep2 => ?_⟩
        refine ⟨_, rfl, p2, bt, _, b, rfl, ep2, eb3.same (s4.trans s5), fun p3 H6 s6 l3 => ?_⟩
        have l1' := l1.same (s5.trans s6)
        have s16 := s14.trans (s5.trans s6)
        have len := slacks_len (i, j) (after (i, j) stp 1) b
        have len4 := slacks_len4 (i, j) b
        generalize slacks (i, j) b = xs at l1' len len4 k
        generalize slacks (after (i, j) stp 1) b = ys at l3 len k
        have line : (1000 : Nat) < sizeLine := by decide
        have n4 : ∀ i, ((xs.zip ys).take i).length ≤ 4 := fun i => by
          rw [List.length_take, List.length_zip]
          omega
        refine ⟨_, _, rfl, ?_⟩
        show tSeq _ _ _ [some (.ref a), some (.ref x), some (.ref pa), some (.ref qa), some (.int d.g), some (.int d.y), some (.ref st), some (.ref bt), some (.ref p1), some (.ref p3), none, none, none, none] H6
        refine ⟨_, rfl, _, rfl, p1, p3, xs.map V.int, ys.map V.int, rfl, .inl ⟨SqL.of l1', SqL.of l3, fun D1 hD1 => lc_it (walk_zip (n := xs.length) (by rw [List.length_map, List.length_map, ← len, Nat.min_self]))
          (fun i H' => Acc H6 D1 ((((xs.zip ys).take i).map fun z => decide (z.1 < 0) && decide (z.1 ≤ z.2)).map V.bl) H') (Acc.start hD1) (fun i H' _ q' => ⟨SqL.of (q'.1 _ _ l1'), SqL.of (q'.1 _ _ l3)⟩) ?_ ?_⟩⟩
        · rintro i1 v H7 H8 hi a1 ⟨T3, y1, y2, rfl, nT, rfl, hx, hy⟩
          obtain ⟨m, rfl, hm⟩ := int_at hx
          obtain ⟨n, rfl, hn⟩ := int_at hy
          obtain ⟨H9, z9, s9, e9⟩ := mk_at (o := .tup [V.int m, V.int n]) nT
          rw [z9]
          have l9 := n4 i1
          refine ⟨T3, _, rfl, SqT.of e9, rfl, _, _, rfl, _, _, rfl, rfl, rfl, ?_⟩
          refine ⟨_, rfl, _, _, rfl, rfl, _, rfl, ?_⟩
          have put := (a1.on s9).put (ys := (((xs.zip ys).take (i1 + 1)).map fun z => decide (z.1 < 0) && decide (z.1 ≤ z.2)).map V.bl)
          have pt := pairs_take (fun z => decide (z.1 < 0) && decide (z.1 ≤ z.2)) hm hn
          rw [pt] at put
          by_cases c9 : m < 0
          · simp only [c9, decide_true, Bool.true_and] at put
            rw [decide_eq_true c9]
            refine iteT ⟨_, rfl, _, rfl, _, _, rfl, rfl, _, (a1.on s9).2.2, by rw [List.length_map, List.length_map]; omega, ?_⟩
            rw [pt]
            simp only [c9, decide_true, Bool.true_and]
            exact put
          · simp only [c9, decide_false, Bool.false_and] at put
            rw [decide_eq_false c9]
            refine iteF ⟨_, (a1.on s9).2.2, by rw [List.length_map, List.length_map]; omega, ?_⟩
            rw [pt]
            simp only [c9, decide_false, Bool.false_and]
            exact put
        intro H7 a7
        have tz : (xs.zip ys).take xs.length = xs.zip ys := List.take_of_length_le (by rw [List.length_zip]; omega)
        rw [tz] at a7
        refine ⟨D1, _, rfl, SqL.of a7.2.2, ?_⟩
        rw [any_map_id]
        have kk : ∀ H', Same H H' → Q (.bl (lackB (xs.zip ys) && lackA (xs.zip ys))) H' := k
        unfold lackB at kk
        generalize (xs.zip ys).any (fun z => decide (z.1 < 0) && decide (z.1 ≤ z.2)) = B1 at kk ⊢
        have l17 := a7.1 _ _ l1'
        have l37 := a7.1 _ _ l3
        show tSeq _ _ _ [some (.ref a), some (.ref x), some (.ref pa), some (.ref qa), some (.int d.g), some (.int d.y), some (.ref st), some (.ref bt), some (.ref p1), some (.ref p3), some (.bl B1), none, none, none] H7
        refine ⟨_, rfl, _, rfl, p1, p3, xs.map V.int, ys.map V.int, rfl, .inl ⟨SqL.of l17, SqL.of l37, fun D2 hD2 => lc_it (walk_zip (n := xs.length) (by rw [List.length_map, List.length_map, ← len, Nat.min_self]))
          (fun i H' => Acc H7 D2 ((((xs.zip ys).take i).map fun z => decide (z.2 < 0) && decide (z.2 ≤ z.1)).map V.bl) H') (Acc.start hD2) (fun i H' _ q' => ⟨SqL.of (q'.1 _ _ l17), SqL.of (q'.1 _ _ l37)⟩) ?_ ?_⟩⟩
        · rintro i1 v H8 H9 hi a1 ⟨T3, y1, y2, rfl, nT, rfl, hx, hy⟩
          obtain ⟨m, rfl, hm⟩ := int_at hx
          obtain ⟨n, rfl, hn⟩ := int_at hy
          obtain ⟨H10, z10, s9, e9⟩ := mk_at (o := .tup [V.int m, V.int n]) nT
          rw [z10]
          have l9 := n4 i1
          refine ⟨T3, _, rfl, SqT.of e9, rfl, _, _, rfl, _, _, rfl, rfl, rfl, ?_⟩
          refine ⟨_, rfl, _, _, rfl, rfl, _, rfl, ?_⟩
          have put := (a1.on s9).put (ys := (((xs.zip ys).take (i1 + 1)).map fun z => decide (z.2 < 0) && decide (z.2 ≤ z.1)).map V.bl)
          have pt := pairs_take (fun z => decide (z.2 < 0) && decide (z.2 ≤ z.1)) hm hn
          rw [pt] at put
          by_cases c9 : n < 0
          · simp only [c9, decide_true, Bool.true_and] at put
            rw [decide_eq_true c9]
            refine iteT ⟨_, rfl, _, rfl, _, _, rfl, rfl, _, (a1.on s9).2.2, by rw [List.length_map, List.length_map]; omega, ?_⟩
            rw [pt]
            simp only [c9, decide_true, Bool.true_and]
            exact put
          · simp only [c9, decide_false, Bool.false_and] at put
            rw [decide_eq_false c9]
            refine iteF ⟨_, (a1.on s9).2.2, by rw [List.length_map, List.length_map]; omega, ?_⟩
            rw [pt]
            simp only [c9, decide_false, Bool.false_and]
            exact put
        intro H8 a8
        rw [tz] at a8
        refine ⟨D2, _, rfl, SqL.of a8.2.2, ?_⟩
        rw [any_map_id]
        have k8 := kk _ (s16.trans (a7.1.trans a8.1))
        unfold lackA at k8
        generalize (xs.zip ys).any (fun z => decide (z.2 < 0) && decide (z.2 ≤ z.1)) = B2 at k8 ⊢
        refine ⟨_, rfl, _, rfl, ?_⟩
        cases B1 with
        | true => exact iteT ⟨_, rfl, k8⟩
        | false => exact iteF k8
end
end K11
namespace K11
open PySem L2
open L2.My
open Met
theorem eqv_pair (i j a b : Int) : PyData.eqv (.tuple [.int i, .int j]) (.tuple [.int a, .int b]) = decide (some (a, b) = some (i, j)) := by
  rw [Bool.eq_iff_iff]
  simp [PyData.eqv, PyData.eqvAll]
  omega
theorem eqv_none (i j : Int) : PyData.eqv (.tuple [.int i, .int j]) .none = decide ((none : Option Pr) = some (i, j)) := by
  simp [PyData.eqv]
theorem shp (i j : Int) : SeqAt.shaped (.tuple [.int i, .int j]) = true := by
  simp [SeqAt.shaped, PyData.canLay0, PyData.depth, PyData.canLayAll0, PyData.depthAll]
/-- the head of a value as the comparisons see it -/
structure Head (h : V) (hd : Hd) : Prop where
  sc : ∀ z : Str, scal h (.str z) = true
  n : decide (h = .str "nearest") = decide (hd = .near)
  m : decide (h = .str "modulus") = decide (hd = .modulus)
  g : decide (h = .str "gap") = decide (hd = .gap)
theorem head_str (z : Str) (hd : Hd) (n : decide ((V.str z) = .str "nearest") = decide (hd = .near)) (m : decide ((V.str z) = .str "modulus") = decide (hd = .modulus)) (g : decide ((V.str z) = .str "gap") = decide (hd = .gap)) : Head (.str z) hd := ⟨fun _ => rfl, n, m, g⟩
theorem hN : Head (.str "nearest") .near := head_str _ _ (by decide +kernel) (by decide +kernel) (by decide +kernel)
theorem hM : Head (.str "modulus") .modulus := head_str _ _ (by decide +kernel) (by decide +kernel) (by decide +kernel)
theorem hG : Head (.str "gap") .gap := head_str _ _ (by decide +kernel) (by decide +kernel) (by decide +kernel)
theorem hO : Head (.str "Nearest") .other := head_str _ _ (by decide +kernel) (by decide +kernel) (by decide +kernel)
theorem hI (i : Int) : Head (.int i) .other := ⟨fun _ => rfl, rfl, rfl, rfl⟩
/-- a value that is judged -/
inductive ValAt (K : PySem.W.Frag) (H : Hp) : V → PV → Prop
  | no {x : V} {n : String} (t : TyX K H x (.type n)) (m : n ∈ "int" :: kinds) : ValAt K H x .no
  | emp {a : Addr} (e : H a = some (.tup [])) : ValAt K H (.ref a) .no
  | two {a : Addr} {h x : V} {hd : Hd} {o : Option Int} (e : H a = some (.tup [h, x])) (hh : Head h hd) (it : Item K H x o) : ValAt K H (.ref a) (.two hd o)
  | three {a : Addr} {h : V} {hd : Hd} {i j : Int} (e : H a = some (.tup [h, .int i, .int j])) (hh : Head h hd) (bi : B 1500 i) (bj : B 1500 j) : ValAt K H (.ref a) (.three hd i j)
  | four {a : Addr} {h : V} {hd : Hd} {i j k : Int} (e : H a = some (.tup [h, .int i, .int j, .int k])) (hh : Head h hd) : ValAt K H (.ref a) .no
structure ITxt (K : PySem.W.Frag) (mg : Str → Option Value) (C CA : Addr) : Prop where
  ha : PySem.W.findIn K (.ref C) "__class__" = some (some (.builtin "object.__class__"))
  hn : PySem.W.specialIn K (.builtin "object.__class__") "__get__" = some (some (.builtin "getset_descriptor.__get__"))
  htk : PySem.W.takesIn K (.builtin "object.__class__") = some true
  hm : PySem.W.mroIn K C (.type "object") = some true
  gC : mg "Meetings" = some (.ref C)
  kC : PySem.W.kitOne K (.ref C) (.ref C) = some true
  kN : PySem.W.kitOne K (.type "NoneType") (.ref C) = some false
  kI : PySem.W.kitOne K (.type "int") (.ref C) = some false
  kT : PySem.W.kitOne K (.type "tuple") (.ref C) = some false
  kS : PySem.W.kitOne K (.type "str") (.ref C) = some false
  kL : PySem.W.kitOne K (.type "list") (.ref C) = some false
  gA : mg "InvalidArgument" = some (.ref CA)
  xA : PySem.W.excIn K CA [.type "ValueError", .type "Exception", .type "BaseException", .type "object"] "ValueError.__new__" = true
  kA : PySem.W.keepIn K (.ref CA) = true
  bA : PySem.W.subIn K (.ref CA) (.type "BaseException") = some true
  tA : PySem.W.typeIn K (.ref CA) = some (.type "type")
  eAA : PySem.W.exmOne K (.ref CA) (.ref CA) = some true
section
variable {P : Program} {w : World} {K : PySem.W.Frag} {mg : Str → Option Value} {base : Heap}
theorem tyMet {C x : Addr} {H : Hp} {p q : Pr} {b : Bd} {CA : Addr} (T : CTxt K C) (I : ITxt K mg C CA) (m : MetAt C H x p q b) : TyX K H (.ref x) (.ref C) := by
  obtain ⟨dx, ta, ba, vl, vn, vs, vt, vr, t, e, o⟩ := m
  exact .base (.ins e T.cl I.ha I.hn I.htk I.hm)
def spPaper (K : PySem.W.Frag) (C CA : Addr) : Sp := fun vs H Q E => ∃ x y, vs = [x, y] ∧
  ((∃ a p q b pv, x = .ref a ∧ MetAt C H a p q b ∧ PSz p q ∧ BOk b ∧ ValAt K H y pv ∧ ∀ H', Same H H' → Q (.bl (judge p q b pv)) H') ∨
   (∃ t, TyX K H x t ∧ PySem.W.kitOne K t (.ref C) = some false ∧ E (.ref CA) none H))
theorem scPaper : FnScope ["meetings", "value"] ["meetings", "value"] (defScope tPaper) := ⟨rfl, rfl, rfl, by decide +kernel, rfl, by decide +kernel, by decide +kernel⟩
theorem ok_paper {f C CA fP fM fG aP gP aO gO aN gN : Addr} {fd fdP fdM fdG fP' fO' fN' : FuncData} (F : Fun K "is_meetings_paper" "is_meetings_paper" tPaper f fd) (T : CTxt K C) (X : Txt K mg) (I : ITxt K mg C CA)
    (rP : Pn P w K mg base C "place" (spGP C) aP gP fP') (rO : Pn P w K mg base C "other" (spGO C) aO gO fO') (rN : Pn P w K mg base C "nearest" (spGN C) aN gN fN')
    (dP : Dn P w K mg base CX0 "is_pair" ["value"] 2 (spPair K) fP fdP) (dM : Dn P w K mg base CX0 "is_modulus" ["value", "place", "other"] 2 (spModulus K) fM fdM) (dG : Dn P w K mg base CX0 "is_gap" ["pair", "meetings"] 3 (spGap K C) fG fdG) :
    FnOk P w K mg base (L2.CX P w) 4 f fd ["meetings", "value"] (spPaper K C CA) := by
  refine F.okX scPaper (fun vs H Q E h => ?_) (fun cdv A outer s H vs Q E hr h => ?_)
  · obtain ⟨x, y, rfl, _⟩ := h
    rfl
  · obtain ⟨x, y, rfl, h⟩ := h
    have hr2 : Room 2 _ := hr.mono (by decide)
    refine ⟨_, pss_cons (ps_if (pt_not (pt_val (pe_callB call_isi (by rfl) X.isi (by decide +kernel) (pa_cons (pv 0) (pa_cons (pe_glob (v := .ref C) rfl I.gC rfl) pa_nil))))) (pss_one (ps_raise rfl (takes_of rfl rfl rfl rfl) (pmk_own PySem.F.excBase_ValueError I.xA I.gA I.kA (raises_own I.bA I.tA) rfl))) pss_nil)
      (pss_cons (ps_if (PW.pt (pw_or (pt_not (pt_val (pe_callB call_isi (by rfl) X.isi (by decide +kernel) (pa_cons (pv 1) (pa_cons (pe_bltn (v := .ty "tuple") (by rfl) X.tuple (by decide +kernel) rfl) pa_nil)))))
          (pw_or1 (pt_cmpR op_lt (pe_callB call_len_seq (by rfl) X.len PySem.boot_len (pa_cons (pv 1) pa_nil)) pe_int (nomark _))))) (pss_one (ps_ret pe_bl)) pss_nil)
      (pss_cons (ps_if (pt_cmpR op_eq (pe_ix ix_tup (pv 1) pe_int (fun _ _ => rfl)) pe_str (nomark _)) (pss_one (ps_ret (pe_and (pe_call dP.G hr2 rfl dP.g dP.kp dP.b .nil pass0 (pa_cons (pe_slice sl_tupA (pv 1) (po_some pe_int) po_none) pa_nil))
          (pe_one (pe_cmpR (op_eqD hr.units) (pe_slice sl_tupA (pv 1) (po_some pe_int) po_none) (pe_prop (pv 0) T.cl rN.h rN.G hr2 rN.b .nil pass0 rfl) (nomark _)))))) pss_nil)
      (pss_cons (ps_if (pt_cmpR op_eq (pe_ix ix_tup (pv 1) pe_int (fun _ _ => rfl)) pe_str (nomark _)) (pss_one (ps_ret (pe_and (pe_cmpR op_eq (pe_callB call_len_seq (by rfl) X.len PySem.boot_len (pa_cons (pv 1) pa_nil)) pe_int (nomark _))
          (pe_one (pe_call dM.G hr2 rfl dM.g dM.kp dM.b .nil pass0 (pa_cons (pe_ix ix_tup (pv 1) pe_int (fun _ _ => rfl)) (pa_cons (pe_prop (pv 0) T.cl rP.h rP.G hr2 rP.b .nil pass0 rfl) (pa_cons (pe_prop (pv 0) T.cl rO.h rO.G hr2 rO.b .nil pass0 rfl) pa_nil)))))))) pss_nil)
      (pss_one (ps_ret (pe_and (pe_cmpR op_eq (pe_ix ix_tup (pv 1) pe_int (fun _ _ => rfl)) pe_str (nomark _)) (pe_one (pe_call dG.G hr rfl dG.g dG.kp dG.b .nil pass0 (pa_cons (pe_slice sl_tupA (pv 1) (po_some pe_int) po_none) (pa_cons (pv 0) pa_nil)))))))))), ?_⟩
    rcases h with ⟨a, p, q, b, pv, rfl, met, ps, bo, va, k⟩ | ⟨t, ty, kt, ke⟩
    case inr =>
      exact ⟨_, rfl, _, _, _, _, _, rfl, ClsV.own _, ty, kt, _, rfl, iteT ke⟩
    refine ⟨_, rfl, _, _, _, _, _, rfl, ClsV.own _, tyMet T I met, I.kC, _, rfl, iteF ?_⟩
    obtain ⟨dx, ta, ba, vl, vn, vs, vt, vr, tp, ex, o'⟩ := id met
    have k0 := k H (Same.refl _)
    cases va with
    | @no _ n t m =>
      simp only [List.mem_cons, List.not_mem_nil, or_false] at m
      rcases m with rfl | rfl | rfl | rfl | rfl | rfl
      all_goals
        exact ⟨_, rfl, _, _, _, _, _, rfl, ClsV.ty _, t, kit_ty (r := false) (by decide +kernel), _, rfl, iteT (iteT k0)⟩
    | @emp a2 e =>
      refine ⟨_, rfl, _, _, _, _, _, rfl, ClsV.ty _, .base (.tup e), kit_ty (r := true) (by decide +kernel), _, rfl, iteF ?_⟩
      exact ⟨_, rfl, _, _, rfl, .inr (SqT.of e), _, _, rfl, rfl, _, rfl, iteT k0⟩
    | @two a2 h x hd o e hh it =>
      refine ⟨_, rfl, _, _, _, _, _, rfl, ClsV.ty _, .base (.tup e), kit_ty (r := true) (by decide +kernel), _, rfl, iteF ?_⟩
      refine ⟨_, rfl, _, _, rfl, .inr (SqT.of e), _, _, rfl, rfl, _, rfl, iteF ?_⟩
      refine ⟨_, rfl, a2, _, 0, _, rfl, rfl, SqT.of e, atI_nat (j := 0) rfl, hh.sc _, _, rfl, ?_⟩
      rw [hh.n]
      cases hd with
      | near =>
        refine iteT ⟨_, rfl, _, rfl, ?_⟩
        try unfold tNoPart
        refine sl_go2 e fun c H1 s1 e1 => ?_
        refine ⟨_, _, rfl, .tup (show H1 c = some (.tup [x]) from e1) (by show (1 : Nat) ≠ 2; decide), _, rfl, iteF (k _ s1)⟩
      | modulus =>
        refine iteF ⟨_, rfl, a2, _, 0, _, rfl, rfl, SqT.of e, atI_nat (j := 0) rfl, hh.sc _, _, rfl, ?_⟩
        rw [hh.m]
        refine iteT ⟨_, rfl, _, _, rfl, .inr (SqT.of e), rfl, _, rfl, iteT ?_⟩
        refine ⟨_, rfl, a2, _, 1, _, rfl, rfl, SqT.of e, atI_nat (j := 1) rfl, _, rfl, a, dx, _, rfl, ex, a, p, q, b, rfl, met, fun pa ep => ?_⟩
        refine ⟨_, rfl, a, dx, _, rfl, ex, a, p, q, b, rfl, met, fun qa eq => ?_⟩
        refine ⟨x, pa, qa, o, p, q, rfl, it, ep, eq, ?_⟩
        cases o <;> exact k0
      | gap =>
        refine iteF ⟨_, rfl, a2, _, 0, _, rfl, rfl, SqT.of e, atI_nat (j := 0) rfl, hh.sc _, _, rfl, ?_⟩
        rw [hh.m]
        refine iteF ⟨_, rfl, a2, _, 0, _, rfl, rfl, SqT.of e, atI_nat (j := 0) rfl, hh.sc _, ?_⟩
        rw [hh.g]
        refine ⟨_, rfl, iteT ⟨_, rfl, _, rfl, ?_⟩⟩
        try unfold tNoPart
        refine sl_go2 e fun c H1 s1 e1 => ?_
        exact ⟨_, rfl, _, a, none, p, q, b, rfl, .tup (show H1 c = some (.tup [x]) from e1) (by show (1 : Nat) ≠ 2; decide), (fun _ _ z => by cases z), met.same s1, ps, bo, fun H' s' => k _ (s1.trans s')⟩
      | other =>
        refine iteF ⟨_, rfl, a2, _, 0, _, rfl, rfl, SqT.of e, atI_nat (j := 0) rfl, hh.sc _, _, rfl, ?_⟩
        rw [hh.m]
        refine iteF ⟨_, rfl, a2, _, 0, _, rfl, rfl, SqT.of e, atI_nat (j := 0) rfl, hh.sc _, ?_⟩
        rw [hh.g]
        exact ⟨_, rfl, iteF k0⟩
    | @three a2 h hd i j e hh bi bj =>
      refine ⟨_, rfl, _, _, _, _, _, rfl, ClsV.ty _, .base (.tup e), kit_ty (r := true) (by decide +kernel), _, rfl, iteF ?_⟩
      refine ⟨_, rfl, _, _, rfl, .inr (SqT.of e), _, _, rfl, rfl, _, rfl, iteF ?_⟩
      refine ⟨_, rfl, a2, _, 0, _, rfl, rfl, SqT.of e, atI_nat (j := 0) rfl, hh.sc _, _, rfl, ?_⟩
      rw [hh.n]
      cases hd with
      | near =>
        refine iteT ⟨_, rfl, _, rfl, ?_⟩
        try unfold tNoPart
        refine sl_go2 e fun c H1 s1 e1 => ?_
        refine ⟨_, _, rfl, .two (show H1 c = some (.tup [.int i, .int j]) from e1) (.int i) (.int j), _, rfl, iteT ?_⟩
        refine ⟨_, rfl, _, rfl, ?_⟩
        try unfold tNoPart
        refine sl_go2 (s1 _ _ e) fun c2 H2 s2 e2 => ?_
        have e2 : H2 c2 = some (.tup [.int i, .int j]) := e2
        have s12 := s1.trans s2
        refine ⟨_, rfl, a, dx, _, rfl, s12 _ _ ex, a, p, q, b, rfl, met.same s12, fun v on => ?_⟩
        have k2 := k _ s12
        have k2 : Q (.bl (decide ((told p q b).near = some (i, j)))) H2 := k2
        generalize (told p q b).near = z at on k2
        cases z with
        | none =>
          obtain rfl : v = .non := on
          refine ⟨_, _, .tup (SqT.of e2) (.cons (.int i) (.cons (.int j) .nil)), .non, shp _ _, by decide +kernel, ?_⟩
          rw [eqv_none]
          exact k2
        | some y =>
          obtain ⟨t, rfl, et⟩ := on
          refine ⟨_, _, .tup (SqT.of e2) (.cons (.int i) (.cons (.int j) .nil)), .tup (SqT.of et) (.cons (.int _) (.cons (.int _) .nil)), shp _ _, shp _ _, ?_⟩
          rw [eqv_pair]
          exact k2
      | modulus =>
        refine iteF ⟨_, rfl, a2, _, 0, _, rfl, rfl, SqT.of e, atI_nat (j := 0) rfl, hh.sc _, _, rfl, ?_⟩
        rw [hh.m]
        exact iteT ⟨_, rfl, _, _, rfl, .inr (SqT.of e), rfl, _, rfl, iteF k0⟩
      | gap =>
        refine iteF ⟨_, rfl, a2, _, 0, _, rfl, rfl, SqT.of e, atI_nat (j := 0) rfl, hh.sc _, _, rfl, ?_⟩
        rw [hh.m]
        refine iteF ⟨_, rfl, a2, _, 0, _, rfl, rfl, SqT.of e, atI_nat (j := 0) rfl, hh.sc _, ?_⟩
        rw [hh.g]
        refine ⟨_, rfl, iteT ⟨_, rfl, _, rfl, ?_⟩⟩
        try unfold tNoPart
        refine sl_go2 e fun c H1 s1 e1 => ?_
        refine ⟨_, rfl, _, a, _, p, q, b, rfl, .two (show H1 c = some (.tup [.int i, .int j]) from e1) (.int i) (.int j), fun i2 j2 z => ?_, met.same s1, ps, bo, fun H' s' => k _ (s1.trans s')⟩
        injection z with z
        injection z with z1 z2
        injection z1 with z1
        injection z2 with z2
        subst z1 z2
        exact ⟨bi, bj⟩
      | other =>
        refine iteF ⟨_, rfl, a2, _, 0, _, rfl, rfl, SqT.of e, atI_nat (j := 0) rfl, hh.sc _, _, rfl, ?_⟩
        rw [hh.m]
        refine iteF ⟨_, rfl, a2, _, 0, _, rfl, rfl, SqT.of e, atI_nat (j := 0) rfl, hh.sc _, ?_⟩
        rw [hh.g]
        exact ⟨_, rfl, iteF k0⟩
    | @four a2 h hd i j l e hh =>
      refine ⟨_, rfl, _, _, _, _, _, rfl, ClsV.ty _, .base (.tup e), kit_ty (r := true) (by decide +kernel), _, rfl, iteF ?_⟩
      refine ⟨_, rfl, _, _, rfl, .inr (SqT.of e), _, _, rfl, rfl, _, rfl, iteF ?_⟩
      refine ⟨_, rfl, a2, _, 0, _, rfl, rfl, SqT.of e, atI_nat (j := 0) rfl, hh.sc _, _, rfl, ?_⟩
      rw [hh.n]
      cases hd with
      | near =>
        refine iteT ⟨_, rfl, _, rfl, ?_⟩
        try unfold tNoPart
        refine sl_go2 e fun c H1 s1 e1 => ?_
        exact ⟨_, _, rfl, .tup (show H1 c = some (.tup [.int i, .int j, .int l]) from e1) (by show (3 : Nat) ≠ 2; decide), _, rfl, iteF (k _ s1)⟩
      | modulus =>
        refine iteF ⟨_, rfl, a2, _, 0, _, rfl, rfl, SqT.of e, atI_nat (j := 0) rfl, hh.sc _, _, rfl, ?_⟩
        rw [hh.m]
        exact iteT ⟨_, rfl, _, _, rfl, .inr (SqT.of e), rfl, _, rfl, iteF k0⟩
      | gap =>
        refine iteF ⟨_, rfl, a2, _, 0, _, rfl, rfl, SqT.of e, atI_nat (j := 0) rfl, hh.sc _, _, rfl, ?_⟩
        rw [hh.m]
        refine iteF ⟨_, rfl, a2, _, 0, _, rfl, rfl, SqT.of e, atI_nat (j := 0) rfl, hh.sc _, ?_⟩
        rw [hh.g]
        refine ⟨_, rfl, iteT ⟨_, rfl, _, rfl, ?_⟩⟩
        try unfold tNoPart
        refine sl_go2 e fun c H1 s1 e1 => ?_
        exact ⟨_, rfl, _, a, none, p, q, b, rfl, .tup (show H1 c = some (.tup [.int i, .int j, .int l]) from e1) (by show (3 : Nat) ≠ 2; decide), (fun _ _ z => by cases z), met.same s1, ps, bo, fun H' s' => k _ (s1.trans s')⟩
      | other =>
        refine iteF ⟨_, rfl, a2, _, 0, _, rfl, rfl, SqT.of e, atI_nat (j := 0) rfl, hh.sc _, _, rfl, ?_⟩
        rw [hh.m]
        refine iteF ⟨_, rfl, a2, _, 0, _, rfl, rfl, SqT.of e, atI_nat (j := 0) rfl, hh.sc _, ?_⟩
        rw [hh.g]
        exact ⟨_, rfl, iteF k0⟩
end
end K11
namespace K11
open PySem L2
open L2.My
open Met
section
variable {P : Program} {w : World} {K : PySem.W.Frag} {mg : Str → Option Value} {base : Heap}
/-! ### _law_is_count, _law_is_truth, _law_moved -/
theorem slCount : FnScope ["_law_value"] ["_law_value"] (defScope lCount) := ⟨rfl, rfl, rfl, by decide +kernel, rfl, by decide +kernel, by decide +kernel⟩
theorem lok_count {f : Addr} {fd : FuncData} (F : Fun K "_law_is_count" "_law_is_count" lCount f fd) (T : Txt K mg) : FnOk P w K mg base CX0 1 f fd ["_law_value"] (spWhole K) := by
  refine F.ok slCount (fun vs H Q E h => ?_) (fun cdv A outer s H vs Q E hr h => ?_)
  · obtain ⟨x, o, rfl, _⟩ := h
    rfl
  · obtain ⟨x, o, rfl, it, k⟩ := h
    refine ⟨_, pss_one (ps_ret (pe_and (pe_callB call_isi (by rfl) T.isi (by decide +kernel) (pa_cons (pv 0) (pa_cons (pe_bltn (v := .ty "int") (by rfl) T.int (by decide +kernel) rfl) pa_nil)))
      (pe_one (pe_not (pe_callB call_isi (by rfl) T.isi (by decide +kernel) (pa_cons (pv 0) (pa_cons (pe_bltn (v := .ty "bool") (by rfl) T.bool (by decide +kernel) rfl) pa_nil))))))), ?_⟩
    cases it with
    | int i =>
      refine ⟨_, rfl, _, _, _, _, _, rfl, ClsV.ty _, .base (.int i), kit_ty (r := true) (by decide +kernel), _, rfl, iteT ?_⟩
      exact ⟨_, rfl, _, _, _, _, _, rfl, ClsV.ty _, .base (.int i), kit_ty (r := false) (by decide +kernel), _, rfl, k⟩
    | @other _ n t m =>
      simp only [List.mem_cons, List.not_mem_nil, or_false] at m
      rcases m with rfl | rfl | rfl | rfl | rfl | rfl
      case inr.inl =>
        refine ⟨_, rfl, _, _, _, _, _, rfl, ClsV.ty _, t, kit_ty (r := true) (by decide +kernel), _, rfl, iteT ?_⟩
        exact ⟨_, rfl, _, _, _, _, _, rfl, ClsV.ty _, t, kit_ty (r := true) (by decide +kernel), _, rfl, k⟩
      all_goals
        exact ⟨_, rfl, _, _, _, _, _, rfl, ClsV.ty _, t, kit_ty (r := false) (by decide +kernel), _, rfl, iteF k⟩
def spTruth : Sp := fun vs H Q _ => ∃ a b : Bool, vs = [.bl a, .bl b] ∧ Q (.bl (a == b)) H
theorem slTruth : FnScope ["_law_value", "_law_due"] ["_law_value", "_law_due"] (defScope lTruth) := ⟨rfl, rfl, rfl, by decide +kernel, rfl, by decide +kernel, by decide +kernel⟩
theorem lok_truth {f : Addr} {fd : FuncData} (F : Fun K "_law_is_truth" "_law_is_truth" lTruth f fd) (T : Txt K mg) : FnOk P w K mg base CX0 1 f fd ["_law_value", "_law_due"] spTruth := by
  refine F.ok slTruth (fun vs H Q E h => ?_) (fun cdv A outer s H vs Q E hr h => ?_)
  · obtain ⟨a, b, rfl, _⟩ := h
    rfl
  · obtain ⟨a, b, rfl, k⟩ := h
    refine ⟨_, pss_one (ps_ret (pe_and (pe_callB call_isi (by rfl) T.isi (by decide +kernel) (pa_cons (pv 0) (pa_cons (pe_bltn (v := .ty "bool") (by rfl) T.bool (by decide +kernel) rfl) pa_nil))) (pe_one (pe_cmpR op_eq (pv 0) (pv 1) (nomark _))))), ?_⟩
    refine ⟨_, rfl, _, _, _, _, _, rfl, ClsV.ty _, .base (.bl a), kit_ty (r := true) (by decide +kernel), _, rfl, iteT ⟨_, rfl, _, rfl, rfl, ?_⟩⟩
    show Q (.bl (decide (V.bl a = V.bl b))) H
    rw [dec_bl]
    exact k
theorem slMoved : FnScope ["_law_pair", "_law_step_here", "_law_many"] ["_law_pair", "_law_step_here", "_law_many"] (defScope lMoved) := ⟨rfl, rfl, rfl, by decide +kernel, rfl, by decide +kernel, by decide +kernel⟩
theorem lok_moved {f : Addr} {fd : FuncData} (F : Fun K "_law_moved" "_law_moved" lMoved f fd) : FnOk P w K mg base CX0 1 f fd ["_law_pair", "_law_step_here", "_law_many"] spAfter := by
  refine F.ok slMoved (fun vs H Q E h => ?_) (fun cdv A outer s H vs Q E hr h => ?_)
  · obtain ⟨p, s, e, st, i, rfl, _⟩ := h
    rfl
  · obtain ⟨p, s', e, st, i, rfl, ep, es, b1, b2, b3, k⟩ := h
    refine ⟨_, pss_one (ps_ret (pe_tup (pa_cons (pe_op op_add (pe_ix ix_tup (pv 0) pe_int (fun _ _ => rfl)) (pe_op op_mulW (pe_ix ix_tup (pv 1) pe_int (fun _ _ => rfl)) (pv 2)))
      (pa_cons (pe_op op_add (pe_ix ix_tup (pv 0) pe_int (fun _ _ => rfl)) (pe_op op_mulW (pe_ix ix_tup (pv 1) pe_int (fun _ _ => rfl)) (pv 2))) pa_nil)))), ?_⟩
    refine ⟨_, rfl, p, _, 0, _, rfl, rfl, SqT.of ep, atI_nat (j := 0) rfl, _, rfl, s', _, 0, _, rfl, rfl, SqT.of es, atI_nat (j := 0) rfl, _, rfl, _, _, rfl, rfl, b1.ml b3, _, _, rfl, rfl, ?_⟩
    refine ⟨_, rfl, p, _, 1, _, rfl, rfl, SqT.of ep, atI_nat (j := 1) rfl, _, rfl, s', _, 1, _, rfl, rfl, SqT.of es, atI_nat (j := 1) rfl, _, rfl, _, _, rfl, rfl, b2.ml b3, _, _, rfl, rfl, ?_⟩
    exact ⟨n_line, fun t nt => k t _ (grow nt) upd_same⟩
/-! ### _law_divisor, _law_step -/
structure RTxt (mg : Str → Option Value) : Prop where
  abs : mg "abs" = none
  int : mg "int" = none
  range : mg "range" = none
def spLDiv : Sp := fun vs H Q _ => ∃ a b : Int, vs = [.int a, .int b] ∧ B 300 a ∧ B 300 b ∧ (a ≠ 0 ∨ b ≠ 0) ∧ Q (.int (divOf a b).g) H
theorem slDiv : FnScope ["_law_one_here", "_law_other", "_law_turn"] ["_law_one_here", "_law_other"] (defScope lDiv) := ⟨rfl, rfl, rfl, by decide +kernel, rfl, by decide +kernel, by decide +kernel⟩
theorem prod_lt {a b : Int} (ha : B 300 a) (hb : B 300 b) : a.natAbs * b.natAbs < 2 ^ 1999 := by
  have h := ha.mul hb
  have h2 : B 1999 (a * b) := h.up
  unfold B at h2
  rw [Int.natAbs_mul] at h2
  exact h2
theorem abs_if (a : Int) : (if a < 0 then -a else a) = (a.natAbs : Int) := by split <;> omega
theorem lok_div {f : Addr} {fd : FuncData} (F : Fun K "_law_divisor" "_law_divisor" lDiv f fd) (T : RTxt mg) : FnOk P w K mg base CX0 1 f fd ["_law_one_here", "_law_other"] spLDiv := by
  refine F.ok slDiv (fun vs H Q E h => ?_) (fun cdv A outer s H vs Q E hr h => ?_)
  · obtain ⟨a, b, rfl, _⟩ := h
    rfl
  · obtain ⟨a, b, rfl, ha, hb, nz, k⟩ := h
    rw [divOf_gcd nz] at k
    refine ⟨_, pss_cons (ps_par (i := 0) (j := 1) rfl slDiv.nd rfl rfl (by decide) rfl rfl (pa_cons (pe_callB call_abs (by rfl) T.abs (by decide +kernel) (pa_cons (pv 0) pa_nil)) (pa_cons (pe_callB call_abs (by rfl) T.abs (by decide +kernel) (pa_cons (pv 1) pa_nil)) pa_nil)) (by rfl))
      (pss_cons (ps_for PassesOwn.never rfl (pi_range1 rfl T.range (pa_cons pe_int pa_nil)) (pg_name (i := 2) slDiv.nd rfl (.inl rfl))
        (pss_cons (ps_if (pt_cmpR op_eq (pv 1) pe_int (nomark _)) (pss_one (ps_ret (pv 0))) pss_nil)
        (pss_one (ps_par (i := 0) (j := 1) rfl slDiv.nd rfl rfl (by decide) rfl rfl (pa_cons (pv 1) (pa_cons (pe_op op_modN (pe_callTy call_int1 (by rfl) T.int (by decide +kernel) (pa_cons (pv 0) pa_nil)) (pv 1)) pa_nil)) (by rfl)))))
      (pss_one (ps_ret (pv 0)))), ?_⟩
    refine ⟨_, rfl, _, rfl, _, rfl, _, rfl, _, _, rfl, ?_⟩
    refine ⟨2000, rfl, by decide, by decide, for_range (n := 2000) (fun i σ H' => H' = H ∧ ∃ (x y : Nat) (v : Option V), σ = [some (.int (x : Int)), some (.int (y : Int)), v] ∧ EU a.natAbs b.natAbs i x y ∧ (i = 0 → x = a.natAbs ∧ y = b.natAbs))
      ⟨rfl, a.natAbs, b.natAbs, none, by show [some (V.int (if a < 0 then -a else a)), some (V.int (if b < 0 then -b else b)), none] = _; rw [abs_if, abs_if], EU.start _ _, fun _ => ⟨rfl, rfl⟩⟩ ?_ ?_⟩
    · rintro i σ H1 hi ⟨rfl, x, y, v, rfl, eu, e0⟩
      refine ⟨_, rfl, rfl, _, rfl, ?_⟩
      by_cases c : y = 0
      · subst c
        refine iteT ⟨_, rfl, ?_⟩
        rw [eu.done]
        exact k
      · have ce : decide (V.int (y : Int) = V.int 0) = false := by
          simp
          omega
        rw [ce]
        refine iteF ⟨_, rfl, _, rfl, .inl ⟨_, rfl, _, rfl, _, _, rfl, rfl, (by omega), ?_⟩⟩
        refine ⟨_, _, rfl, rfl, y, x % y, some (V.int (0 + (i : Int))), ?_, eu.turn e0 c, fun z => by omega⟩
        have em : (x : Int).fmod (y : Int) = ((x % y : Nat) : Int) := by
          rw [Int.fmod_eq_emod_of_nonneg _ (by omega)]
          exact (Int.natCast_emod x y).symm
        show [some (V.int (y : Int)), some (V.int ((x : Int).fmod (y : Int))), _] = _
        rw [em]
    · rintro σ H1 ⟨rfl, x, y, v, rfl, eu, _⟩
      refine ⟨_, rfl, ?_⟩
      rw [eu.late (prod_lt ha hb)]
      exact k
def spLStep : Sp := fun vs H Q _ => ∃ a b p q, vs = [.ref a, .ref b] ∧ PairAt H a p ∧ PairAt H b q ∧ PSz p q ∧ ∀ t H', Same H H' → PairAt H' t (stepOf p q) → Q (.ref t) H'
theorem slStep : FnScope ["_law_place", "_law_other", "_law_shared"] ["_law_place", "_law_other"] (defScope lStep) := ⟨rfl, rfl, rfl, by decide +kernel, rfl, by decide +kernel, by decide +kernel⟩
theorem lok_step {f fD : Addr} {fd fdD : FuncData} (F : Fun K "_law_step" "_law_step" lStep f fd) (dD : Dn P w K mg base CX0 "_law_divisor" ["_law_one_here", "_law_other"] 1 spLDiv fD fdD) : FnOk P w K mg base CX0 2 f fd ["_law_place", "_law_other"] spLStep := by
  refine F.ok slStep (fun vs H Q E h => ?_) (fun cdv A outer s H vs Q E hr h => ?_)
  · obtain ⟨a, b, p, q, rfl, _⟩ := h
    rfl
  · obtain ⟨a, b, p, q, rfl, ep, eq, ps, k⟩ := h
    refine ⟨_, pss_cons (ps_set (i := 2) slStep.nd rfl (.inl rfl) (pe_call dD.G hr rfl dD.g dD.kp dD.b .nil pass0 (pa_cons (pe_ix ix_tup (pv 0) pe_int (fun _ _ => rfl)) (pa_cons (pe_ix ix_tup (pv 1) pe_int (fun _ _ => rfl)) pa_nil))))
      (pss_one (ps_ret (pe_tup (pa_cons (pe_op op_fdivW (pe_ix ix_tup (pv 1) pe_int (fun _ _ => rfl)) (pv 2)) (pa_cons (pe_op op_fdivW (pe_ix ix_tup (pv 0) pe_int (fun _ _ => rfl)) (pv 2)) pa_nil))))), ?_⟩
    have L := lim403 (ps.h1.up (m := 400)) (ps.h3.up (m := 400))
    have bg : B 403 (divOf p.1 q.1).g := B.lim (divOf_lim p.1 q.1).g L
    have pos := (divOf_ok ps.nz).pos
    refine ⟨_, rfl, a, _, 0, _, rfl, rfl, SqT.of ep, atI_nat (j := 0) rfl, _, rfl, b, _, 0, _, rfl, rfl, SqT.of eq, atI_nat (j := 0) rfl, p.1, q.1, rfl, ps.h1, ps.h3, ps.nz, ?_⟩
    refine ⟨_, rfl, b, _, 0, _, rfl, rfl, SqT.of eq, atI_nat (j := 0) rfl, _, rfl, _, _, rfl, rfl, bg.dw pos, _, rfl, a, _, 0, _, rfl, rfl, SqT.of ep, atI_nat (j := 0) rfl, _, rfl, _, _, rfl, rfl, bg.dw pos, n_line, fun t nt => k t _ (grow nt) upd_same⟩
/-! ### _law_meets, _law_is_good -/
def spLMeets : Sp := fun vs H Q _ => ∃ a b c p q e, vs = [.ref a, .ref b, .ref c] ∧ PairAt H a p ∧ PairAt H b q ∧ PairAt H c e ∧ PSz p q ∧ B 2000 e.1 ∧ B 2000 e.2 ∧ Q (.bl (meetB p q e)) H
theorem slMeets : FnScope ["_law_place", "_law_other", "_law_pair"] ["_law_place", "_law_other", "_law_pair"] (defScope lMeets) := ⟨rfl, rfl, rfl, by decide +kernel, rfl, by decide +kernel, by decide +kernel⟩
theorem lok_meets {f : Addr} {fd : FuncData} (F : Fun K "_law_meets" "_law_meets" lMeets f fd) : FnOk P w K mg base CX0 1 f fd ["_law_place", "_law_other", "_law_pair"] spLMeets := by
  refine F.ok slMeets (fun vs H Q E h => ?_) (fun cdv A outer s H vs Q E hr h => ?_)
  · obtain ⟨a, b, c, p, q, e, rfl, _⟩ := h
    rfl
  · obtain ⟨a, b, c, p, q, e, rfl, ep, eq, ee, ps, b1, b2, k⟩ := h
    refine ⟨_, pss_one (ps_ret (pe_cmpR op_eq (pe_op op_add (pe_op op_mulW (pe_ix ix_tup (pv 0) pe_int (fun _ _ => rfl)) (pe_ix ix_tup (pv 2) pe_int (fun _ _ => rfl))) (pe_ix ix_tup (pv 0) pe_int (fun _ _ => rfl)))
      (pe_op op_add (pe_op op_mulW (pe_ix ix_tup (pv 1) pe_int (fun _ _ => rfl)) (pe_ix ix_tup (pv 2) pe_int (fun _ _ => rfl))) (pe_ix ix_tup (pv 1) pe_int (fun _ _ => rfl))) (nomark _))), ?_⟩
    refine ⟨_, rfl, a, _, 0, _, rfl, rfl, SqT.of ep, atI_nat (j := 0) rfl, _, rfl, c, _, 0, _, rfl, rfl, SqT.of ee, atI_nat (j := 0) rfl, _, _, rfl, rfl, ps.h1.ml b1, _, rfl, a, _, 1, _, rfl, rfl, SqT.of ep, atI_nat (j := 1) rfl, _, _, rfl, rfl, ?_⟩
    refine ⟨_, rfl, b, _, 0, _, rfl, rfl, SqT.of eq, atI_nat (j := 0) rfl, _, rfl, c, _, 1, _, rfl, rfl, SqT.of ee, atI_nat (j := 1) rfl, _, _, rfl, rfl, ps.h3.ml b2, _, rfl, b, _, 1, _, rfl, rfl, SqT.of eq, atI_nat (j := 1) rfl, _, _, rfl, rfl, rfl, ?_⟩
    show Q (.bl (decide (V.int (p.1 * e.1 + p.2) = V.int (q.1 * e.2 + q.2)))) H
    rw [show decide (V.int (p.1 * e.1 + p.2) = V.int (q.1 * e.2 + q.2)) = meetB p q e from decide_eq_decide.mpr ⟨fun z => V.int.inj z, fun z => by rw [z]⟩]
    exact k
def spLGood : Sp := fun vs H Q _ => ∃ a b d c p q bd e, vs = [.ref a, .ref b, .ref d, .ref c] ∧ PairAt H a p ∧ PairAt H b q ∧ BdAt H d bd ∧ PairAt H c e ∧ PSz p q ∧ B 2000 e.1 ∧ B 2000 e.2 ∧ Q (.bl (goodB p q bd e)) H
theorem slGood : FnScope ["_law_place", "_law_other", "_law_bounds_here", "_law_pair", "_law_low", "_law_high", "_law_first", "_law_rounds"] ["_law_place", "_law_other", "_law_bounds_here", "_law_pair"] (defScope lGood) := ⟨rfl, rfl, rfl, by decide +kernel, rfl, by decide +kernel, by decide +kernel⟩
theorem lok_good {f fM : Addr} {fd fdM : FuncData} (F : Fun K "_law_is_good" "_law_is_good" lGood f fd) (dM : Dn P w K mg base CX0 "_law_meets" ["_law_place", "_law_other", "_law_pair"] 1 spLMeets fM fdM) :
    FnOk P w K mg base CX0 2 f fd ["_law_place", "_law_other", "_law_bounds_here", "_law_pair"] spLGood := by
  refine F.ok slGood (fun vs H Q E h => ?_) (fun cdv A outer s H vs Q E hr h => ?_)
  · obtain ⟨a, b, d, c, p, q, bd, e, rfl, _⟩ := h
    rfl
  · obtain ⟨a, b, d, c, p, q, bd, e, rfl, ep, eq, eb, ee, ps, b1, b2, k⟩ := h
    refine ⟨_, pss_cons (ps_asg (pv 2) (pg_tup rfl (pgs_cons (pg_name (i := 4) slGood.nd rfl (.inl rfl)) (pgs_cons (pg_name (i := 5) slGood.nd rfl (.inl rfl)) (pgs_cons (pg_name (i := 6) slGood.nd rfl (.inl rfl)) (pgs_cons (pg_name (i := 7) slGood.nd rfl (.inl rfl)) pgs_nil))))))
      (pss_cons (ps_if (PW.pt (pw_or (pt_not (pt_val (pe_call dM.G hr rfl dM.g dM.kp dM.b .nil pass0 (pa_cons (pv 0) (pa_cons (pv 1) (pa_cons (pv 3) pa_nil)))))) (pw_or (pt_cmpR op_lt (pe_ix ix_tup (pv 3) pe_int (fun _ _ => rfl)) (pv 6) (nomark _))
        (pw_or1 (pt_cmpR op_lt (pe_op op_sub (pe_ix ix_tup (pv 3) pe_int (fun _ _ => rfl)) (pe_ix ix_tup (pv 3) pe_int (fun _ _ => rfl))) (pv 4) (nomark _)))))) (pss_one (ps_ret pe_bl)) pss_nil)
      (pss_one (ps_ret (pe_and (pe_or (pe_cmpR op_isN (pv 5) pe_non (nomark _)) (pe_one (pe_cmpR op_le (pe_op op_sub (pe_ix ix_tup (pv 3) pe_int (fun _ _ => rfl)) (pe_ix ix_tup (pv 3) pe_int (fun _ _ => rfl))) (pv 5) (nomark _))))
        (pe_one (pe_or (pe_cmpR op_isN (pv 7) pe_non (nomark _)) (pe_one (pe_cmpR op_lt (pe_ix ix_tup (pv 3) pe_int (fun _ _ => rfl)) (pv 7) (nomark _))))))))), ?_⟩
    obtain ⟨low, high, first, rounds⟩ := bd
    refine ⟨_, rfl, d, _, rfl, SqT.of eb, rfl, _, _, rfl, _, _, rfl, _, _, rfl, _, _, rfl, rfl, ?_⟩
    have k : Q (.bl ((meetB p q e && decide (first ≤ e.1) && decide (low ≤ e.2 - e.1)) && (optLe high (e.2 - e.1) && optLt rounds e.2))) H := k
    refine ⟨_, rfl, _, rfl, _, rfl, a, b, c, p, q, e, rfl, ep, eq, ee, ps, b1, b2, _, rfl, ?_⟩
    cases cm : meetB p q e with
    | false =>
      rw [cm] at k
      exact iteT (iteT k)
    | true =>
      rw [cm, Bool.true_and] at k
      refine iteF ⟨_, rfl, c, _, 0, _, rfl, rfl, SqT.of ee, atI_nat (j := 0) rfl, _, rfl, _, _, rfl, rfl, _, rfl, ?_⟩
      by_cases c1 : e.1 < first
      · rw [decide_eq_false (show ¬ first ≤ e.1 by omega)] at k
        rw [decide_eq_true c1]
        exact iteT (iteT k)
      · rw [decide_eq_true (show first ≤ e.1 by omega), Bool.true_and] at k
        rw [decide_eq_false c1]
        refine iteF ⟨_, rfl, c, _, 1, _, rfl, rfl, SqT.of ee, atI_nat (j := 1) rfl, _, rfl, c, _, 0, _, rfl, rfl, SqT.of ee, atI_nat (j := 0) rfl, _, _, rfl, rfl, _, rfl, _, _, rfl, rfl, _, rfl, ?_⟩
        by_cases c2 : e.2 - e.1 < low
        · rw [decide_eq_false (show ¬ low ≤ e.2 - e.1 by omega)] at k
          rw [decide_eq_true c2]
          exact iteT k
        · rw [decide_eq_true (show low ≤ e.2 - e.1 by omega), Bool.true_and] at k
          rw [decide_eq_false c2]
          refine iteF ?_
          have last : ∀ {b : Bool}, (b = true → Q (.bl (optLt rounds e.2)) H) → (b = false → Q (.bl false) H) → Q (.bl (b && optLt rounds e.2)) H := fun {b} h1 h2 => by
            cases b
            · exact h2 rfl
            · exact h1 rfl
          have rest : Q (.bl (optLt rounds e.2)) H → tOrV (tOp (fun x y H Q => y = .non ∧ Q (.bl (decide (x = .non))) H) (tVar 7) (tC .non)) (tOp (rI0 fun i j => .bl (decide (i < j))) (tOp (rIxT K) (tVar 3) (tC (.int 1))) (tVar 7))
              [some (.ref a), some (.ref b), some (.ref d), some (.ref c), some (.int low), some (oV high), some (.int first), some (oV rounds)] H Q := fun k2 => by
            cases rounds with
            | none => exact ⟨_, rfl, rfl, _, rfl, iteT k2⟩
            | some r => exact ⟨_, rfl, rfl, _, rfl, iteF ⟨_, rfl, c, _, 1, _, rfl, rfl, SqT.of ee, atI_nat (j := 1) rfl, _, rfl, _, _, rfl, rfl, k2⟩⟩
          cases high with
          | none =>
            rw [show optLe none (e.2 - e.1) = true from rfl, Bool.true_and] at k
            exact ⟨_, rfl, rfl, _, rfl, iteT ⟨_, rfl, iteT (rest k)⟩⟩
          | some h =>
            have k : Q (.bl (decide (e.2 - e.1 ≤ h) && optLt rounds e.2)) H := k
            refine ⟨_, rfl, rfl, _, rfl, iteF ⟨_, rfl, c, _, 1, _, rfl, rfl, SqT.of ee, atI_nat (j := 1) rfl, _, rfl, c, _, 0, _, rfl, rfl, SqT.of ee, atI_nat (j := 0) rfl, _, _, rfl, rfl, _, rfl, _, _, rfl, rfl, _, rfl, ?_⟩⟩
            by_cases c3 : e.2 - e.1 ≤ h
            · rw [decide_eq_true c3, Bool.true_and] at k
              rw [decide_eq_true c3]
              exact iteT (rest k)
            · rw [decide_eq_false c3, Bool.false_and] at k
              rw [decide_eq_false c3]
              exact iteF k
end
end K11
namespace K11
open PySem L2
open L2.My
open Met
/-- tuples are kept -/
def TT (H H' : Hp) : Prop := ∀ b xs, H b = some (.tup xs) → H' b = some (.tup xs)
theorem TT.of {H H' : Hp} (s : Same H H') : TT H H' := fun b xs e => s _ _ e
theorem TT.trans {H H1 H2 : Hp} (a : TT H H1) (b : TT H1 H2) : TT H H2 := fun x xs e => b _ _ (a _ _ e)
theorem TT.put {H : Hp} {l : Addr} {xs : List V} {o : HO} (e : H l = some (.lst xs)) : TT H (upd H l o) := fun b ys h => by
  have n : b ≠ l := by
    intro z
    rw [z, e] at h
    cases h
  rw [upd_ne n]
  exact h
/-- rows: pairs of ints -/
inductive PRow (H : Hp) : List V → List (Int × Int) → Prop
  | nil : PRow H [] []
  | cons {t : Addr} {a b : Int} {vs : List V} {zs : List (Int × Int)} (e : H t = some (.tup [.int a, .int b])) (r : PRow H vs zs) : PRow H (.ref t :: vs) ((a, b) :: zs)
theorem PRow.tt {H H' : Hp} {vs : List V} {zs : List (Int × Int)} (p : PRow H vs zs) (t : TT H H') : PRow H' vs zs := by
  induction p with
  | nil => exact .nil
  | cons e _ ih => exact .cons (t _ _ e) ih
theorem PRow.snoc {H : Hp} {vs : List V} {zs : List (Int × Int)} {t : Addr} {a b : Int} (p : PRow H vs zs) (e : H t = some (.tup [.int a, .int b])) : PRow H (vs ++ [.ref t]) (zs ++ [(a, b)]) := by
  induction p with
  | nil => exact .cons e .nil
  | cons e' _ ih => exact .cons e' ih
theorem PRow.at {H : Hp} {vs : List V} {zs : List (Int × Int)} (p : PRow H vs zs) : ∀ {i : Nat} {v : V}, vs[i]? = some v → ∃ t a b, v = .ref t ∧ zs[i]? = some (a, b) ∧ H t = some (.tup [.int a, .int b]) := by
  induction p with
  | nil =>
    intro i v h
    cases h
  | @cons t a b vs zs e _ ih =>
    intro i v h
    cases i with
    | zero =>
      have h : some (V.ref t) = some v := h
      injection h with h
      exact ⟨t, a, b, h.symm, rfl, e⟩
    | succ i => exact ih (i := i) h
theorem PRow.len {H : Hp} {vs : List V} {zs : List (Int × Int)} (p : PRow H vs zs) : vs.length = zs.length := by
  induction p with
  | nil => rfl
  | cons _ _ ih => simp [ih]
theorem step_sz {p q : Pr} (ps : PSz p q) : B 300 (stepOf p q).1 ∧ B 300 (stepOf p q).2 := ⟨ps.h3.div, ps.h1.div⟩
section
variable {P : Program} {w : World} {K : PySem.W.Frag} {mg : Str → Option Value} {base : Heap}
/-! ### _law_is_nearest -/
def spLNear : Sp := fun vs H Q _ => ∃ a b d c p q bd e, vs = [.ref a, .ref b, .ref d, .ref c] ∧ PairAt H a p ∧ PairAt H b q ∧ BdAt H d bd ∧ PairAt H c e ∧ PSz p q ∧ B 1500 e.1 ∧ B 1500 e.2 ∧ ∀ H', Same H H' → Q (.bl (lawNear p q bd e)) H'
theorem slNear : FnScope ["_law_place", "_law_other", "_law_bounds_here", "_law_pair", "_law_step_here", "_law_way"] ["_law_place", "_law_other", "_law_bounds_here", "_law_pair"] (defScope lNearest) := ⟨rfl, rfl, rfl, by decide +kernel, rfl, by decide +kernel, by decide +kernel⟩
theorem lok_near {f fG fS fM : Addr} {fd fdG fdS fdM : FuncData} (F : Fun K "_law_is_nearest" "_law_is_nearest" lNearest f fd) (dG : Dn P w K mg base CX0 "_law_is_good" ["_law_place", "_law_other", "_law_bounds_here", "_law_pair"] 2 spLGood fG fdG)
    (dS : Dn P w K mg base CX0 "_law_step" ["_law_place", "_law_other"] 2 spLStep fS fdS) (dM : Dn P w K mg base CX0 "_law_moved" ["_law_pair", "_law_step_here", "_law_many"] 1 spAfter fM fdM) :
    FnOk P w K mg base CX0 3 f fd ["_law_place", "_law_other", "_law_bounds_here", "_law_pair"] spLNear := by
  refine F.ok slNear (fun vs H Q E h => ?_) (fun cdv A outer s H vs Q E hr h => ?_)
  · obtain ⟨a, b, d, c, p, q, bd, e, rfl, _⟩ := h
    rfl
  · obtain ⟨a, b, d, c, p, q, bd, e, rfl, ep, eq, eb, ee, ps, b1, b2, k⟩ := h
    have hr1 : Room 1 _ := hr.mono (by decide)
    refine ⟨_, pss_cons (ps_if (pt_not (pt_val (pe_call dG.G hr rfl dG.g dG.kp dG.b .nil pass0 (pa_cons (pv 0) (pa_cons (pv 1) (pa_cons (pv 2) (pa_cons (pv 3) pa_nil))))))) (pss_one (ps_ret pe_bl)) pss_nil)
      (pss_cons (ps_set (i := 4) slNear.nd rfl (.inl rfl) (pe_call dS.G hr rfl dS.g dS.kp dS.b .nil pass0 (pa_cons (pv 0) (pa_cons (pv 1) pa_nil))))
      (pss_cons (ps_set (i := 5) slNear.nd rfl (.inl rfl) (pe_ifExp (pt_cmpR op_ne (pe_ix ix_tup (pv 4) pe_int (fun _ _ => rfl)) (pe_ix ix_tup (pv 4) pe_int (fun _ _ => rfl)) (nomark _)) (pe_op op_sub (pe_ix ix_tup (pv 4) pe_int (fun _ _ => rfl)) (pe_ix ix_tup (pv 4) pe_int (fun _ _ => rfl))) (pe_ix ix_tup (pv 4) pe_int (fun _ _ => rfl))))
      (pss_one (ps_ret (pe_not (pe_call dG.G hr rfl dG.g dG.kp dG.b .nil pass0 (pa_cons (pv 0) (pa_cons (pv 1) (pa_cons (pv 2) (pa_cons (pe_call dM.G hr1 rfl dM.g dM.kp dM.b .nil pass0 (pa_cons (pv 3) (pa_cons (pv 4) (pa_cons (pe_ifExp (pt_cmpR op_gt (pv 5) pe_int (nomark _)) (pe_un un_neg pe_int) pe_int) pa_nil)))) pa_nil)))))))))), ?_⟩
    refine ⟨_, rfl, _, rfl, _, rfl, _, rfl, a, b, d, c, p, q, bd, e, rfl, ep, eq, eb, ee, ps, b1.up, b2.up, _, rfl, ?_⟩
    unfold lawNear at k
    cases cg : goodB p q bd e with
    | false =>
      rw [cg] at k
      exact iteT (k _ (Same.refl _))
    | true =>
      rw [cg] at k
      simp only [Bool.true_and] at k
      obtain ⟨bs1, bs2⟩ := step_sz ps
      refine iteF ⟨_, rfl, _, rfl, a, b, p, q, rfl, ep, eq, ps, fun t H1 s1 et => ?_⟩
      generalize stepOf p q = st at et k bs1 bs2
      obtain ⟨u, v⟩ := st
      have tail : ∀ way : Int, way = wayOf (u, v) → ∀ i : Int, i = (if 0 < wayOf (u, v) then -1 else 1) → B 2000 i →
          ∃ (z : Addr), z = t ∧ spAfter ([.ref c, .ref t, .int i] ++ []) H1 (fun x H2 => spLGood ([.ref a, .ref b, .ref d, x] ++ []) H2 (fun y H3 => ∃ c, y = .bl c ∧ Q (.bl (!c)) H3) E0) E0 := by
        intro way ew i ei bi
        refine ⟨t, rfl, c, t, e, (u, v), i, rfl, ee.same s1, et, bs1.up, bs2.up, bi, fun t2 H2 s2 e2 => ?_⟩
        have s12 := s1.trans s2
        have b10 : B 10 i := by
          unfold B
          rw [ei]
          split <;> decide
        refine ⟨a, b, d, t2, p, q, bd, _, rfl, ep.same s12, eq.same s12, eb.same s12, e2, ps, (b1.up.add ((bs1.mul b10).up)).up (n := 1501), (b2.up.add ((bs2.mul b10).up)).up (n := 1501), _, rfl, ?_⟩
        rw [ei]
        exact k _ s12
      have one : B 2000 (1 : Int) := .one
      have mone : B 2000 (-1 : Int) := B.le one (by decide)
      have fin : ∀ way : Int, way = wayOf (u, v) → tIf (tTest (tOp (rI0 fun i j => .bl (decide (j < i))) (tVar 5) (tC (.int 0)))) (tUn (rU fun i => .int (-i)) (tC (.int 1))) (tC (.int 1))
          [some (.ref a), some (.ref b), some (.ref d), some (.ref c), some (.ref t), some (.int way)] H1 (fun x H2 => tNil [some (.ref a), some (.ref b), some (.ref d), some (.ref c), some (.ref t), some (.int way)] H2 fun xs H3 => spAfter ([.ref c, .ref t, x] ++ xs) H3 (fun x H2 => spLGood ([.ref a, .ref b, .ref d, x] ++ []) H2 (fun y H3 => ∃ c, y = .bl c ∧ Q (.bl (!c)) H3) E0) E0) := by
        intro way ew
        refine ⟨_, rfl, _, _, rfl, rfl, _, rfl, ?_⟩
        by_cases cw : 0 < way
        · rw [decide_eq_true cw]
          obtain ⟨_, _, r⟩ := tail way ew (-1) (by rw [if_pos (ew ▸ cw)]) mone
          exact iteT ⟨_, rfl, r⟩
        · rw [decide_eq_false cw]
          obtain ⟨_, _, r⟩ := tail way ew 1 (by rw [if_neg (ew ▸ cw)]) one
          exact iteF r
      refine ⟨_, rfl, t, _, 1, _, rfl, rfl, SqT.of et, atI_nat (j := 1) rfl, _, rfl, t, _, 0, _, rfl, rfl, SqT.of et, atI_nat (j := 0) rfl, rfl, _, rfl, ?_⟩
      by_cases cuv : v = u
      · refine iteFe (by simp [cuv]) ⟨_, rfl, t, _, 1, _, rfl, rfl, SqT.of et, atI_nat (j := 1) rfl, ?_⟩
        refine ⟨_, rfl, _, rfl, _, rfl, _, rfl, _, rfl, fin v ?_⟩
        unfold wayOf
        rw [if_neg (by simpa using cuv)]
      · have ce : (!decide (V.int v = V.int u)) = true := by simp [cuv]
        rw [ce]
        refine iteT ⟨_, rfl, t, _, 1, _, rfl, rfl, SqT.of et, atI_nat (j := 1) rfl, _, rfl, t, _, 0, _, rfl, rfl, SqT.of et, atI_nat (j := 0) rfl, _, _, rfl, rfl, ?_⟩
        refine ⟨_, rfl, _, rfl, _, rfl, _, rfl, _, rfl, fin (v - u) ?_⟩
        unfold wayOf
        rw [if_pos (by simpa using cuv)]
end
end K11
namespace K11
open PySem L2
open L2.My
open Met
section
variable {P : Program} {w : World} {K : PySem.W.Frag} {mg : Str → Option Value} {base : Heap}
def hRow (u v e1 e2 : Int) : Option Int → List (Int × Int)
  | some h => [(h - e2 + e1, u - v)]
  | none => []
/-! ### _law_spares -/
def spLSpares : Sp := fun vs H Q _ => ∃ a b d c p q bd e, vs = [.ref a, .ref b, .ref d, .ref c] ∧ PairAt H a p ∧ PairAt H b q ∧ BdAt H d bd ∧ PairAt H c e ∧ PSz p q ∧
  ∀ l H' xs, Same H H' → H' l = some (.lst xs) → PRow H' xs (spares p q bd e) → Q (.ref l) H'
theorem slSpares : FnScope ["_law_place", "_law_other", "_law_bounds_here", "_law_pair", "_law_low", "_law_high", "_law_first", "_law_rounds", "_law_one_here", "_law_two", "_law_found"] ["_law_place", "_law_other", "_law_bounds_here", "_law_pair"] (defScope lSpares) := ⟨rfl, rfl, rfl, by decide +kernel, rfl, by decide +kernel, by decide +kernel⟩
theorem lok_spares {f fS : Addr} {fd fdS : FuncData} (F : Fun K "_law_spares" "_law_spares" lSpares f fd) (dS : Dn P w K mg base CX0 "_law_step" ["_law_place", "_law_other"] 2 spLStep fS fdS) :
    FnOk P w K mg base CX0 3 f fd ["_law_place", "_law_other", "_law_bounds_here", "_law_pair"] spLSpares := by
  refine F.ok slSpares (fun vs H Q E h => ?_) (fun cdv A outer s H vs Q E hr h => ?_)
  · obtain ⟨a, b, d, c, p, q, bd, e, rfl, _⟩ := h
    rfl
  · obtain ⟨a, b, d, c, p, q, bd, e, rfl, ep, eq, eb, ee, ps, k⟩ := h
    refine ⟨_, pss_cons (ps_asg (pv 2) (pg_tup rfl (pgs_cons (pg_name (i := 4) slSpares.nd rfl (.inl rfl)) (pgs_cons (pg_name (i := 5) slSpares.nd rfl (.inl rfl)) (pgs_cons (pg_name (i := 6) slSpares.nd rfl (.inl rfl)) (pgs_cons (pg_name (i := 7) slSpares.nd rfl (.inl rfl)) pgs_nil))))))
      (pss_cons (ps_asg (pe_call dS.G hr rfl dS.g dS.kp dS.b .nil pass0 (pa_cons (pv 0) (pa_cons (pv 1) pa_nil))) (pg_tup rfl (pgs_cons (pg_name (i := 8) slSpares.nd rfl (.inl rfl)) (pgs_cons (pg_name (i := 9) slSpares.nd rfl (.inl rfl)) pgs_nil))))
      (pss_cons (ps_set (i := 10) slSpares.nd rfl (.inl rfl) (pe_lst (pa_cons (pe_tup (pa_cons (pe_op op_sub (pe_ix ix_tup (pv 3) pe_int (fun _ _ => rfl)) (pv 6)) (pa_cons (pv 8) pa_nil)))
        (pa_cons (pe_tup (pa_cons (pe_op op_sub (pe_op op_sub (pe_ix ix_tup (pv 3) pe_int (fun _ _ => rfl)) (pe_ix ix_tup (pv 3) pe_int (fun _ _ => rfl))) (pv 4)) (pa_cons (pe_op op_sub (pv 9) (pv 8)) pa_nil))) pa_nil))))
      (pss_cons (ps_if (pt_cmpR op_notN (pv 5) pe_non (nomark _)) (pss_one (ps_expr (pe_bm PySem.F.plainAttrs_list PySem.F.slot_list_append PySem.F.type_list_append mt_append (pv 10) (pa_cons (pe_tup (pa_cons (pe_op op_add (pe_op op_sub (pv 5) (pe_ix ix_tup (pv 3) pe_int (fun _ _ => rfl))) (pe_ix ix_tup (pv 3) pe_int (fun _ _ => rfl))) (pa_cons (pe_op op_sub (pv 8) (pv 9)) pa_nil))) pa_nil)))) pss_nil)
      (pss_cons (ps_if (pt_cmpR op_notN (pv 7) pe_non (nomark _)) (pss_one (ps_expr (pe_bm PySem.F.plainAttrs_list PySem.F.slot_list_append PySem.F.type_list_append mt_append (pv 10) (pa_cons (pe_tup (pa_cons (pe_op op_sub (pe_op op_sub (pv 7) pe_int) (pe_ix ix_tup (pv 3) pe_int (fun _ _ => rfl))) (pa_cons (pe_un un_neg (pv 9)) pa_nil))) pa_nil)))) pss_nil)
      (pss_one (ps_ret (pv 10))))))), ?_⟩
    obtain ⟨low, high, first, rounds⟩ := bd
    refine ⟨_, rfl, d, _, rfl, SqT.of eb, rfl, _, _, rfl, _, _, rfl, _, _, rfl, _, _, rfl, rfl, ?_⟩
    refine ⟨_, rfl, _, rfl, a, b, p, q, rfl, ep, eq, ps, fun t H1 s1 et => ?_⟩
    unfold spares at k
    generalize stepOf p q = st at et k
    obtain ⟨u, v⟩ := st
    obtain ⟨e1, e2⟩ := e
    refine ⟨t, _, rfl, SqT.of et, rfl, _, _, rfl, _, _, rfl, rfl, ?_⟩
    have ee1 := ee.same s1
    refine ⟨_, rfl, c, _, 0, _, rfl, rfl, SqT.of ee1, atI_nat (j := 0) rfl, _, rfl, _, _, rfl, rfl, _, rfl, n_line, fun t2 n2 => ?_⟩
    obtain ⟨H2, z2, s2, x2⟩ := mk_at (o := .tup [V.int (e1 - first), V.int u]) n2
    rw [z2]
    have ee2 := ee1.same s2
    refine ⟨_, rfl, c, _, 1, _, rfl, rfl, SqT.of ee2, atI_nat (j := 1) rfl, _, rfl, c, _, 0, _, rfl, rfl, SqT.of ee2, atI_nat (j := 0) rfl, _, _, rfl, rfl, _, rfl, _, _, rfl, rfl, _, rfl, _, rfl, _, _, rfl, rfl, n_line, fun t3 n3 => ?_⟩
    obtain ⟨H3, z3, s3, x3⟩ := mk_at (o := .tup [V.int (e2 - e1 - low), V.int (v - u)]) n3
    refine (?_ : (_ : Hp → Prop) (upd H2 t3 (.tup [V.int (e2 - e1 - low), V.int (v - u)])))
    rw [z3]
    refine ⟨n_line, fun l nl => ?_⟩
    have pr0 : PRow H3 [.ref t2, .ref t3] [(e1 - first, u), (e2 - e1 - low, v - u)] := .cons (s3 _ _ x2) (.cons x3 .nil)
    have s13 := s1.trans (s2.trans s3)
    have a0 : Acc H3 l [V.ref t2, V.ref t3] (upd H3 l (.lst [V.ref t2, V.ref t3])) := ⟨grow nl, nl, upd_same⟩
    generalize upd H3 l (.lst [V.ref t2, V.ref t3]) = H4 at a0 ⊢
    have pr4 := pr0.tt (.of a0.1)
    have ee4 := (ee.same s13).same a0.1
    have line : (1000 : Nat) < sizeLine := by decide
    -- the last two steps
    have last : ∀ (H5 : Hp) (xs : List V) (zs : List (Int × Int)), Acc H3 l xs H5 → PRow H5 xs zs → xs.length ≤ 3 → PairAt H5 c (e1, e2) → (zs = [(e1 - first, u), (e2 - e1 - low, v - u)] ++ hRow u v e1 e2 high) →
        (rounds = none → Q (.ref l) H5) ∧ (∀ r, rounds = some r → ∀ t5, H5 t5 = none → Q (.ref l) (upd (upd H5 t5 (.tup [V.int (r - 1 - e2), V.int (-v)])) l (.lst (xs ++ [V.ref t5])))) := by
      intro H5 xs zs a5 pr5 lx ee5 ez
      refine ⟨fun er => k l H5 xs (s13.trans a5.1) a5.2.2 ?_, fun r er t5 n5 => ?_⟩
      · rw [er]
        show PRow H5 xs (([(e1 - first, u), (e2 - e1 - low, v - u)] ++ hRow u v e1 e2 high) ++ [])
        rw [List.append_nil, ← ez]
        exact pr5
      · have a6 := (a5.on (grow (o := .tup [V.int (r - 1 - e2), V.int (-v)]) n5)).put (ys := xs ++ [V.ref t5])
        refine k l _ _ (s13.trans a6.1) a6.2.2 ?_
        rw [er]
        show PRow _ _ (([(e1 - first, u), (e2 - e1 - low, v - u)] ++ hRow u v e1 e2 high) ++ [(r - 1 - e2, -v)])
        rw [← ez]
        have l6 : (upd H5 t5 (.tup [V.int (r - 1 - e2), V.int (-v)])) l = some (.lst xs) := (grow n5) _ _ a5.2.2
        exact ((pr5.tt (.of (grow n5))).snoc upd_same).tt (.put l6)
    cases high with
    | none =>
      refine ⟨_, rfl, rfl, _, rfl, iteF ?_⟩
      obtain ⟨k1, k2⟩ := last H4 _ _ a0 pr4 (by simp) ee4 rfl
      cases rounds with
      | none => exact ⟨_, rfl, rfl, _, rfl, iteF ⟨_, rfl, k1 rfl⟩⟩
      | some r =>
        refine ⟨_, rfl, rfl, _, rfl, iteT ⟨_, rfl, .inl ⟨rfl, _, SqL.of a0.2.2⟩, _, rfl, _, _, rfl, rfl, _, rfl, c, _, 1, _, rfl, rfl, SqT.of ee4, atI_nat (j := 1) rfl, _, _, rfl, rfl, _, rfl, _, rfl, n_line, fun t5 n5 => ?_⟩⟩
        refine ⟨l, _, _, rfl, rfl, grow n5 _ _ a0.2.2, by simp; omega, ?_⟩
        exact ⟨_, rfl, k2 r rfl t5 n5⟩
    | some h =>
      refine ⟨_, rfl, rfl, _, rfl, iteT ⟨_, rfl, .inl ⟨rfl, _, SqL.of a0.2.2⟩, _, rfl, _, rfl, c, _, 1, _, rfl, rfl, SqT.of ee4, atI_nat (j := 1) rfl, _, _, rfl, rfl, _, rfl, c, _, 0, _, rfl, rfl, SqT.of ee4, atI_nat (j := 0) rfl, _, _, rfl, rfl, _, rfl, _, rfl, _, _, rfl, rfl, n_line, fun t5 n5 => ?_⟩⟩
      have s5 := grow (o := .tup [V.int (h - e2 + e1), V.int (u - v)]) n5
      have l5 := s5 _ _ a0.2.2
      refine ⟨l, _, _, rfl, rfl, l5, by simp; omega, ?_⟩
      have a5 := (a0.on s5).put (ys := [V.ref t2, V.ref t3] ++ [V.ref t5])
      have pr5 := ((pr4.tt (.of s5)).snoc upd_same).tt (.put (o := .lst ([V.ref t2, V.ref t3] ++ [V.ref t5])) l5)
      have ee5 : PairAt _ c (e1, e2) := (TT.of s5).trans (.put (o := .lst ([V.ref t2, V.ref t3] ++ [V.ref t5])) l5) _ _ ee4
      obtain ⟨k1, k2⟩ := last _ _ _ a5 pr5 (by simp) ee5 rfl
      cases rounds with
      | none => exact ⟨_, rfl, rfl, _, rfl, iteF ⟨_, rfl, k1 rfl⟩⟩
      | some r =>
        refine ⟨_, rfl, rfl, _, rfl, iteT ⟨_, rfl, .inl ⟨rfl, _, SqL.of a5.2.2⟩, _, rfl, _, _, rfl, rfl, _, rfl, c, _, 1, _, rfl, rfl, SqT.of ee5, atI_nat (j := 1) rfl, _, _, rfl, rfl, _, rfl, _, rfl, n_line, fun t6 n6 => ?_⟩⟩
        refine ⟨l, _, _, rfl, rfl, grow n6 _ _ a5.2.2, by simp; omega, ?_⟩
        exact ⟨_, rfl, k2 r rfl t6 n6⟩
/-! ### _law_is_gap -/
def spLGap : Sp := fun vs H Q _ => ∃ a b d c p q bd e, vs = [.ref a, .ref b, .ref d, .ref c] ∧ PairAt H a p ∧ PairAt H b q ∧ BdAt H d bd ∧ PairAt H c e ∧ PSz p q ∧ B 1500 e.1 ∧ B 1500 e.2 ∧ ∀ H', Same H H' → Q (.bl (lawGap p q bd e)) H'
abbrev nLGap : List Str := ["_law_place", "_law_other", "_law_bounds_here", "_law_pair", "_law_rows", "_law_spare", "_law_slope"]
theorem slGap : FnScope nLGap ["_law_place", "_law_other", "_law_bounds_here", "_law_pair"] (defScope lGap) := ⟨rfl, rfl, rfl, by decide +kernel, rfl, by decide +kernel, by decide +kernel⟩
theorem take_map {zs : List (Int × Int)} {i : Nat} {z : Int × Int} (f : Int × Int → Bool) (h : zs[i]? = some z) : ((zs.take (i + 1)).map f).map V.bl = ((zs.take i).map f).map V.bl ++ [V.bl (f z)] := by
  rw [take_step h, List.map_append, List.map_append]
  rfl
theorem spares_len (p q : Pr) (b : Bd) (e : Pr) : (spares p q b e).length ≤ 4 := by
  unfold spares
  cases b.high <;> cases b.rounds <;> simp
theorem lok_gap {f fM fS : Addr} {fd fdM fdS : FuncData} (F : Fun K "_law_is_gap" "_law_is_gap" lGap f fd) (hany : mg "any" = none) (dM : Dn P w K mg base CX0 "_law_meets" ["_law_place", "_law_other", "_law_pair"] 1 spLMeets fM fdM)
    (dS : Dn P w K mg base CX0 "_law_spares" ["_law_place", "_law_other", "_law_bounds_here", "_law_pair"] 3 spLSpares fS fdS) : FnOk P w K mg base CX0 4 f fd ["_law_place", "_law_other", "_law_bounds_here", "_law_pair"] spLGap := by
  refine F.ok slGap (fun vs H Q E h => ?_) (fun cdv A outer s H vs Q E hr h => ?_)
  · obtain ⟨a, b, d, c, p, q, bd, e, rfl, _⟩ := h
    rfl
  · obtain ⟨a, b, d, c, p, q, bd, e, rfl, ep, eq, eb, ee, ps, b1, b2, k⟩ := h
    have hr1 : Room 1 _ := hr.mono (by decide)
    refine ⟨_, pss_cons (ps_if (pt_not (pt_val (pe_call dM.G hr1 rfl dM.g dM.kp dM.b .nil pass0 (pa_cons (pv 0) (pa_cons (pv 1) (pa_cons (pv 3) pa_nil)))))) (pss_one (ps_ret pe_bl)) pss_nil)
      (pss_cons (ps_set (i := 4) slGap.nd rfl (.inl rfl) (pe_call dS.G hr rfl dS.g dS.kp dS.b .nil pass0 (pa_cons (pv 0) (pa_cons (pv 1) (pa_cons (pv 2) (pa_cons (pv 3) pa_nil))))))
      (pss_cons (ps_if (pt_not (pt_val (pe_callB (cr_any (by rfl)) (by rfl) hany (by decide +kernel) (pa_cons (pe_lc (own := [("_law_spare", 5), ("_law_slope", 6)]) (g := gTup K 2 (gCons (gName 5) (gCons (gName 6) gNil))) (tt := tYes) (by rfl) slGap.nd (pi_list (pv 4))
        (blkOk_by (own := [("_law_spare", 5), ("_law_slope", 6)]) (N := nLGap) (sc := defScope lGap) (by decide +kernel))
        (fun _ _ _ _ _ => pg_tup rfl (pgs_cons (pg_name (i := 5) slGap.nd rfl (.inl rfl)) (pgs_cons (pg_name (i := 6) slGap.nd rfl (.inl rfl)) pgs_nil))) (fun _ _ _ _ _ => pts_nil)
        (fun _ _ _ _ _ => pe_and (pe_cmpR op_lt (pv 5) pe_int (nomark _)) (pe_one (pe_cmpR op_ge (pv 6) pe_int (nomark _))))) pa_nil)))) (pss_one (ps_ret pe_bl)) pss_nil)
      (pss_one (ps_ret (pe_callB (cr_any (by rfl)) (by rfl) hany (by decide +kernel) (pa_cons (pe_lc (own := [("_law_spare", 5), ("_law_slope", 6)]) (g := gTup K 2 (gCons (gName 5) (gCons (gName 6) gNil))) (tt := tYes) (by rfl) slGap.nd (pi_list (pv 4))
        (blkOk_by (own := [("_law_spare", 5), ("_law_slope", 6)]) (N := nLGap) (sc := defScope lGap) (by decide +kernel))
        (fun _ _ _ _ _ => pg_tup rfl (pgs_cons (pg_name (i := 5) slGap.nd rfl (.inl rfl)) (pgs_cons (pg_name (i := 6) slGap.nd rfl (.inl rfl)) pgs_nil))) (fun _ _ _ _ _ => pts_nil)
        (fun _ _ _ _ _ => pe_and (pe_cmpR op_lt (pe_op op_add (pv 5) (pv 6)) pe_int (nomark _)) (pe_one (pe_cmpR op_le (pv 6) pe_int (nomark _))))) pa_nil)))))), ?_⟩
    have k : ∀ H', Same H H' → Q (.bl (meetB p q e && (slopeB (spares p q bd e) && slopeA (spares p q bd e)))) H' := k
    refine ⟨_, rfl, _, rfl, _, rfl, a, b, c, p, q, e, rfl, ep, eq, ee, ps, b1.up, b2.up, _, rfl, ?_⟩
    cases cm : meetB p q e with
    | false =>
      rw [cm] at k
      exact iteT (k _ (Same.refl _))
    | true =>
      rw [cm] at k
      simp only [Bool.true_and] at k
      refine iteF ⟨_, rfl, _, rfl, _, rfl, _, rfl, a, b, d, c, p, q, bd, e, rfl, ep, eq, eb, ee, ps, fun l H1 xs s1 el pr => ?_⟩
      have len := pr.len
      have len4 := spares_len p q bd e
      generalize spares p q bd e = zs at pr len len4 k
      have line : (1000 : Nat) < sizeLine := by decide
      have n4 : ∀ i, (zs.take i).length ≤ 4 := fun i => by
        rw [List.length_take]
        omega
      show tSeq _ _ _ [some (.ref a), some (.ref b), some (.ref d), some (.ref c), some (.ref l), none, none] H1
      refine ⟨_, rfl, l, rfl, ⟨_, SqL.of el⟩, fun D1 hD1 => lc_list (K := K) (a := l) (xs := xs) (fun i H' => Acc H1 D1 (((zs.take i).map fun z => decide (z.1 < 0) && decide (0 ≤ z.2)).map V.bl) H') (Acc.start hD1) (fun i H' _ q' => SqL.of (q'.1 _ _ el)) ?_ ?_⟩
      · intro i y H2 hy a1
        obtain ⟨t, m, n, rfl, hz, et⟩ := pr.at hy
        have l9 := n4 i
        refine ⟨t, _, rfl, SqT.of (a1.1 _ _ et), rfl, _, _, rfl, _, _, rfl, rfl, rfl, _, rfl, _, _, rfl, rfl, _, rfl, ?_⟩
        rw [take_map _ hz]
        by_cases c9 : m < 0
        · rw [decide_eq_true c9]
          refine iteT ⟨_, rfl, _, _, rfl, rfl, _, a1.2.2, by rw [List.length_map, List.length_map]; omega, ?_⟩
          rw [Bool.true_and]
          exact a1.put
        · rw [decide_eq_false c9]
          refine iteF ⟨_, a1.2.2, by rw [List.length_map, List.length_map]; omega, ?_⟩
          rw [Bool.false_and]
          exact a1.put
      intro H2 a1
      rw [List.take_of_length_le (by omega)] at a1
      refine ⟨D1, _, rfl, SqL.of a1.2.2, _, rfl, ?_⟩
      rw [any_map_id]
      unfold slopeB at k
      generalize zs.any (fun z => decide (z.1 < 0) && decide (0 ≤ z.2)) = B1 at k ⊢
      cases B1 with
      | false => exact iteT (k _ (s1.trans a1.1))
      | true =>
        simp only [Bool.true_and] at k
        refine iteF ?_
        have el2 := a1.1 _ _ el
        have pr2 := pr.tt (.of a1.1)
        refine ⟨_, rfl, l, rfl, ⟨_, SqL.of el2⟩, fun D2 hD2 => lc_list (K := K) (a := l) (xs := xs) (fun i H' => Acc H2 D2 (((zs.take i).map fun z => decide (z.1 + z.2 < 0) && decide (z.2 ≤ 0)).map V.bl) H') (Acc.start hD2) (fun i H' _ q' => SqL.of (q'.1 _ _ el2)) ?_ ?_⟩
        · intro i y H3 hy a3
          obtain ⟨t, m, n, rfl, hz, et⟩ := pr2.at hy
          have l9 := n4 i
          refine ⟨t, _, rfl, SqT.of (a3.1 _ _ et), rfl, _, _, rfl, _, _, rfl, rfl, rfl, _, rfl, _, rfl, _, _, rfl, rfl, _, _, rfl, rfl, _, rfl, ?_⟩
          rw [take_map _ hz]
          by_cases c9 : m + n < 0
          · rw [decide_eq_true c9]
            refine iteT ⟨_, rfl, _, _, rfl, rfl, _, a3.2.2, by rw [List.length_map, List.length_map]; omega, ?_⟩
            rw [Bool.true_and]
            exact a3.put
          · rw [decide_eq_false c9]
            refine iteF ⟨_, a3.2.2, by rw [List.length_map, List.length_map]; omega, ?_⟩
            rw [Bool.false_and]
            exact a3.put
        intro H3 a3
        rw [List.take_of_length_le (by omega)] at a3
        refine ⟨D2, _, rfl, SqL.of a3.2.2, ?_⟩
        rw [any_map_id]
        exact k _ (s1.trans (a1.1.trans a3.1))
end
end K11
namespace K11
open PySem L2
open L2.My
open Met
theorem iteTe {c : Bool} {A B : Prop} (h : c = true) (a : A) : if c = true then A else B := by
  rw [h]
  exact iteT a
theorem near_eq (p q : Pr) (b : Bd) (e : Pr) (nz : p.1 ≠ 0 ∨ q.1 ≠ 0) : lawNear p q b e = decide ((told p q b).near = some e) := by
  rw [Bool.eq_iff_iff, near_iff b e nz]
  simp
section
variable {P : Program} {w : World} {K : PySem.W.Frag} {mg : Str → Option Value} {base : Heap}
theorem Item.same {H H' : Hp} {x : V} {o : Option Int} (s : Same H H') (h : Item K H x o) : Item K H' x o := by
  cases h with
  | int i => exact .int i
  | other t m =>
    refine .other ?_ m
    cases t with
    | base b =>
      refine .base ?_
      cases b with
      | non => exact .non
      | bl x => exact .bl x
      | int i => exact .int i
      | str x => exact .str x
      | flt x => exact .flt x
      | lst e => exact .lst (s _ _ e)
      | frz e => exact .frz (s _ _ e)
      | tup e => exact .tup (s _ _ e)
      | dK e => exact .dK (s _ _ e)
      | dT e => exact .dT (s _ _ e)
    | byt b => exact .byt b
    | set e => exact .set (s _ _ e)
    | kList e c => exact .kList e c
    | kTuple e c => exact .kTuple e c
    | kDict e c => exact .kDict e c
    | fTuple e => exact .fTuple (s _ _ e)
    | fDict e => exact .fDict (s _ _ e)
/-- items with what is told of them -/
inductive Items (K : PySem.W.Frag) (H : Hp) : List V → List (Option Int) → Prop
  | nil : Items K H [] []
  | cons {x : V} {o : Option Int} {xs : List V} {os : List (Option Int)} (h : Item K H x o) (r : Items K H xs os) : Items K H (x :: xs) (o :: os)
theorem Items.at {H : Hp} {xs : List V} {os : List (Option Int)} (p : Items K H xs os) : ∀ {i : Nat} {v : V}, xs[i]? = some v → ∃ o, os[i]? = some o ∧ Item K H v o := by
  induction p with
  | nil =>
    intro i v h
    cases h
  | @cons x o xs os h0 r ih =>
    intro i v h
    cases i with
    | zero =>
      have h : some x = some v := h
      injection h with h
      subst h
      exact ⟨o, rfl, h0⟩
    | succ i => exact ih (i := i) h
theorem Items.same {H H' : Hp} {xs : List V} {os : List (Option Int)} (p : Items K H xs os) (s : Same H H') : Items K H' xs os := by
  induction p with
  | nil => exact .nil
  | cons h _ ih => exact .cons (Item.same s h) ih
theorem Items.len {H : Hp} {xs : List V} {os : List (Option Int)} (p : Items K H xs os) : xs.length = os.length := by
  induction p with
  | nil => rfl
  | cons _ _ ih => simp [ih]
def spLPaper (K : PySem.W.Frag) : Sp := fun vs H Q _ => ∃ a b d y p q bd pv, vs = [.ref a, .ref b, .ref d, y] ∧ PairAt H a p ∧ PairAt H b q ∧ BdAt H d bd ∧ ValAt K H y pv ∧ PSz p q ∧ ∀ H', Same H H' → Q (.bl (judge p q bd pv)) H'
abbrev nLPaper : List Str := ["_law_place", "_law_other", "_law_bounds_here", "_law_value", "_law_one_here"]
theorem slPaper : FnScope nLPaper ["_law_place", "_law_other", "_law_bounds_here", "_law_value"] (defScope lPaper) := ⟨rfl, rfl, rfl, by decide +kernel, rfl, by decide +kernel, by decide +kernel⟩
structure PTxt (mg : Str → Option Value) : Prop where
  all : mg "all" = none
  int : mg "int" = none
theorem lok_paper {f fC fN fG : Addr} {fd fdC fdN fdG : FuncData} (F : Fun K "_law_is_paper" "_law_is_paper" lPaper f fd) (X : Txt K mg) (T : PTxt mg) (dC : Dn P w K mg base CX0 "_law_is_count" ["_law_value"] 1 (spWhole K) fC fdC)
    (dN : Dn P w K mg base CX0 "_law_is_nearest" ["_law_place", "_law_other", "_law_bounds_here", "_law_pair"] 3 spLNear fN fdN) (dG : Dn P w K mg base CX0 "_law_is_gap" ["_law_place", "_law_other", "_law_bounds_here", "_law_pair"] 4 spLGap fG fdG) :
    FnOk P w K mg base CX0 5 f fd ["_law_place", "_law_other", "_law_bounds_here", "_law_value"] (spLPaper K) := by
  refine F.ok slPaper (fun vs H Q E h => ?_) (fun cdv A outer s H vs Q E hr h => ?_)
  · obtain ⟨a, b, d, y, p, q, bd, pw, rfl, _⟩ := h
    rfl
  · obtain ⟨a, b, d, y, p, q, bd, pw, rfl, ep, eq, eb, va, ps, k⟩ := h
    have hr1 : Room 1 _ := hr.mono (by decide)
    have hr3 : Room 3 _ := hr.mono (by decide)
    refine ⟨_, pss_cons (ps_if (PW.pt (pw_or (pt_not (pt_val (pe_callB call_isi (by rfl) X.isi (by decide +kernel) (pa_cons (pv 3) (pa_cons (pe_bltn (v := .ty "tuple") (by rfl) X.tuple (by decide +kernel) rfl) pa_nil)))))
          (pw_or (pt_cmpR op_notIn_seq (pe_callB call_len_seq (by rfl) X.len PySem.boot_len (pa_cons (pv 3) pa_nil)) (pe_tup (pa_cons pe_int (pa_cons pe_int pa_nil))) (by rfl))
          (pw_or1 (pt_not (pt_val (pe_callB (cr_all (by rfl)) (by rfl) T.all (by decide +kernel) (pa_cons (pe_lc (own := [("_law_one_here", 4)]) (g := gName 4) (tt := tYes) (by rfl) slPaper.nd (pi_tup (pe_slice sl_tupA (pv 3) (po_some pe_int) po_none))
            (blkOk_by (own := [("_law_one_here", 4)]) (N := nLPaper) (sc := defScope lPaper) (by decide +kernel)) (fun _ _ _ _ _ => pg_name (i := 4) slPaper.nd rfl (Or.inl rfl)) (fun _ _ _ _ _ => pts_nil)
            (fun _ _ _ _ _ => pe_call dC.G hr1 rfl dC.g dC.kp dC.b .nil pass0 (pa_cons (pv 4) pa_nil))) pa_nil)))))))) (pss_one (ps_ret pe_bl)) pss_nil)
      (pss_cons (ps_if (PW.pt (pw_and (pt_cmpR op_eq (pe_ix ix_tup (pv 3) pe_int (fun _ _ => rfl)) pe_str (nomark _)) (pw_and1 (pt_cmpR op_eq (pe_callB call_len_seq (by rfl) X.len PySem.boot_len (pa_cons (pv 3) pa_nil)) pe_int (nomark _)))))
          (pss_cons (ps_if (PW.pt (pw_or (pt_cmpR op_lt (pe_ix ix_tup (pv 3) pe_int (fun _ _ => rfl)) pe_int (nomark _))
              (pw_or (pt_cmpR op_ne (pe_op op_modN (pe_callTy call_int1 (by rfl) T.int (by decide +kernel) (pa_cons (pe_ix ix_tup (pv 0) pe_int (fun _ _ => rfl)) pa_nil)) (pe_ix ix_tup (pv 3) pe_int (fun _ _ => rfl))) pe_int (nomark _))
              (pw_or1 (pt_cmpR op_ne (pe_op op_modN (pe_callTy call_int1 (by rfl) T.int (by decide +kernel) (pa_cons (pe_ix ix_tup (pv 1) pe_int (fun _ _ => rfl)) pa_nil)) (pe_ix ix_tup (pv 3) pe_int (fun _ _ => rfl))) pe_int (nomark _)))))) (pss_one (ps_ret pe_bl)) pss_nil)
            (pss_one (ps_ret (pe_cmpR op_ne (pe_op op_modN (pe_callTy call_int1 (by rfl) T.int (by decide +kernel) (pa_cons (pe_op op_sub (pe_ix ix_tup (pv 1) pe_int (fun _ _ => rfl)) (pe_ix ix_tup (pv 0) pe_int (fun _ _ => rfl))) pa_nil)) (pe_ix ix_tup (pv 3) pe_int (fun _ _ => rfl))) pe_int (nomark _))))) pss_nil)
      (pss_cons (ps_if (PW.pt (pw_and (pt_cmpR op_eq (pe_ix ix_tup (pv 3) pe_int (fun _ _ => rfl)) pe_str (nomark _)) (pw_and1 (pt_cmpR op_eq (pe_callB call_len_seq (by rfl) X.len PySem.boot_len (pa_cons (pv 3) pa_nil)) pe_int (nomark _)))))
          (pss_one (ps_ret (pe_call dN.G hr3 rfl dN.g dN.kp dN.b .nil pass0 (pa_cons (pv 0) (pa_cons (pv 1) (pa_cons (pv 2) (pa_cons (pe_slice sl_tupA (pv 3) (po_some pe_int) po_none) pa_nil))))))) pss_nil)
      (pss_one (ps_ret (pe_and (pe_cmpR op_eq (pe_ix ix_tup (pv 3) pe_int (fun _ _ => rfl)) pe_str (nomark _)) (pe_and (pe_cmpR op_eq (pe_callB call_len_seq (by rfl) X.len PySem.boot_len (pa_cons (pv 3) pa_nil)) pe_int (nomark _))
          (pe_one (pe_call dG.G hr rfl dG.g dG.kp dG.b .nil pass0 (pa_cons (pv 0) (pa_cons (pv 1) (pa_cons (pv 2) (pa_cons (pe_slice sl_tupA (pv 3) (po_some pe_int) po_none) pa_nil)))))))))))), ?_⟩
    have k0 := k H (Same.refl _)
    have line : (1000 : Nat) < sizeLine := by decide
    -- the comprehension over the items behind the head
    have comp : ∀ (H0 : Hp) (a2 : Addr) (h : V) (xs : List V) (os : List (Option Int)), H0 a2 = some (.tup (h :: xs)) → Items K H0 xs os → xs.length ≤ 3 → ∀ R : Bool → Hp → Prop, (∀ H', Same H0 H' → R (os.all Option.isSome) H') →
        tB (tCB (rAll K) (tCons (tLc (iTup K (tSl (rSlA K) (tVar 3) (tPart (tC (.int 1))) tNoPart)) (gName 4) tYes (tCall (spWhole K) [] E0 (tCons (tVar 4) tNil)) [4]) tNil)) [some (.ref a), some (.ref b), some (.ref d), some (.ref a2), none] H0 R := by
      intro H0 a2 h xs os e0 its lx R kR
      refine ⟨_, rfl, _, rfl, ?_⟩
      try unfold tNoPart
      refine sl_go2 e0 fun c H1 s1 e1 => ?_
      have ec : cutV (h :: xs) (some 1) none = xs := by
        unfold cutV
        simp [HT.sIx]
      rw [ec] at e1
      have it1 := its.same s1
      have lo := it1.len
      refine ⟨c, rfl, ⟨_, SqT.of e1⟩, fun D hD => lc_tup (xs := xs) (fun i H' => Acc H1 D (((os.take i).map Option.isSome).map V.bl) H') (Acc.start hD) (fun i H' _ q' => SqT.of (q'.1 _ _ e1)) ?_ ?_⟩
      · intro i y H2 hy a1
        obtain ⟨o, ho, ity⟩ := it1.at hy
        refine ⟨rfl, _, rfl, y, o, rfl, Item.same a1.1 ity, _, a1.2.2, ?_, ?_⟩
        · rw [List.length_map, List.length_map, List.length_take]
          omega
        · rw [take_step ho, List.map_append, List.map_append]
          exact a1.put
      · intro H2 a1
        rw [List.take_of_length_le (by omega)] at a1
        refine ⟨D, _, rfl, SqL.of a1.2.2, _, rfl, ?_⟩
        rw [List.all_map]
        exact kR _ (s1.trans a1.1)
    cases va with
    | @no _ n t m =>
      simp only [List.mem_cons, List.not_mem_nil, or_false] at m
      rcases m with rfl | rfl | rfl | rfl | rfl | rfl
      all_goals
        exact ⟨_, rfl, _, _, _, _, _, rfl, ClsV.ty _, t, kit_ty (r := false) (by decide +kernel), _, rfl, iteT (iteT k0)⟩
    | @emp a2 e =>
      refine ⟨_, rfl, _, _, _, _, _, rfl, ClsV.ty _, .base (.tup e), kit_ty (r := true) (by decide +kernel), _, rfl, iteF ?_⟩
      refine ⟨_, rfl, _, _, rfl, .inr (SqT.of e), n_line, fun tp ntp => ⟨tp, _, rfl, .inr (SqT.of upd_same), rfl, rfl, _, rfl, iteTe (by rfl) (iteT (k _ (grow ntp)))⟩⟩
    | @four a2 h hd i j l e hh =>
      refine ⟨_, rfl, _, _, _, _, _, rfl, ClsV.ty _, .base (.tup e), kit_ty (r := true) (by decide +kernel), _, rfl, iteF ?_⟩
      refine ⟨_, rfl, _, _, rfl, .inr (SqT.of e), n_line, fun tp ntp => ⟨tp, _, rfl, .inr (SqT.of upd_same), rfl, rfl, _, rfl, iteTe (by rfl) (iteT (k _ (grow ntp)))⟩⟩
    | @two a2 h x hd o e hh it =>
      refine ⟨_, rfl, _, _, _, _, _, rfl, ClsV.ty _, .base (.tup e), kit_ty (r := true) (by decide +kernel), _, rfl, iteF ?_⟩
      refine ⟨_, rfl, _, _, rfl, .inr (SqT.of e), n_line, fun tp ntp => ⟨tp, _, rfl, .inr (SqT.of upd_same), rfl, rfl, _, rfl, iteFe (by rfl) ?_⟩⟩
      obtain ⟨H0, z0, s0, _⟩ := mk_at (o := .tup [V.int 2, V.int 3]) ntp
      rw [z0]
      refine comp H0 a2 h [x] [o] (s0 _ _ e) (.cons (Item.same s0 it) .nil) (by simp) _ (fun H1 s1 => ?_)
      have s01 := s0.trans s1
      have e1 := s01 _ _ e
      have k1 := k _ s01
      have it1 := Item.same s01 it
      cases o with
      | none => exact iteT (by cases hd <;> exact k1)
      | some m =>
        cases it1
        refine iteF ?_
        refine ⟨_, rfl, a2, _, 0, _, rfl, rfl, SqT.of e1, atI_nat (j := 0) rfl, hh.sc _, _, rfl, ?_⟩
        rw [hh.m]
        have late : judge p q bd (.two hd (some m)) = false → (tSeq (tIfS (tAnd (tTest (tOp rEq (tOp (rIxT K) (tVar 3) (tC (.int 0))) (tC (.str "nearest")))) (tTest (tOp rEq (tCB (fun xs H_1 Q => ∃ p ys, xs = [V.ref p] ∧ (SqL K H_1 p ys ∨ SqT K H_1 p ys) ∧ Q (V.int ys.length) H_1) (tCons (tVar 3) tNil)) (tC (.int 3))))) (tRet (tCall spLNear [] E0 (tCons (tVar 0) (tCons (tVar 1) (tCons (tVar 2) (tCons (tSl (rSlA K) (tVar 3) (tPart (tC (.int 1))) tNoPart) tNil)))))) tNext)
            (tRet (tAndV (tOp rEq (tOp (rIxT K) (tVar 3) (tC (.int 0))) (tC (.str "gap"))) (tAndV (tOp rEq (tCB (fun xs H_1 Q => ∃ p ys, xs = [V.ref p] ∧ (SqL K H_1 p ys ∨ SqT K H_1 p ys) ∧ Q (V.int ys.length) H_1) (tCons (tVar 3) tNil)) (tC (.int 3))) (tCall spLGap [] E0 (tCons (tVar 0) (tCons (tVar 1) (tCons (tVar 2) (tCons (tSl (rSlA K) (tVar 3) (tPart (tC (.int 1))) tNoPart) tNil)))))))))
            { nx := fun _ H' => Q .non H', rt := Q } [some (.ref a), some (.ref b), some (.ref d), some (.ref a2), none] H1 := by
          intro ej
          rw [ej] at k1
          refine ⟨_, rfl, a2, _, 0, _, rfl, rfl, SqT.of e1, atI_nat (j := 0) rfl, hh.sc _, _, rfl, ?_⟩
          rw [hh.n]
          have gp : ∃ c : Bool, V.bl (decide (h = .str "gap")) = .bl c ∧ (if c = true then tAndV (tOp rEq (tCB (fun xs H_1 Q => ∃ p ys, xs = [V.ref p] ∧ (SqL K H_1 p ys ∨ SqT K H_1 p ys) ∧ Q (V.int ys.length) H_1) (tCons (tVar 3) tNil)) (tC (.int 3))) (tCall spLGap [] E0 (tCons (tVar 0) (tCons (tVar 1) (tCons (tVar 2) (tCons (tSl (rSlA K) (tVar 3) (tPart (tC (.int 1))) tNoPart) tNil))))) [some (.ref a), some (.ref b), some (.ref d), some (.ref a2), none] H1 Q else Q (.bl false) H1) := by
            refine ⟨_, rfl, ?_⟩
            cases cg : decide (h = V.str "gap") with
            | true => exact iteT ⟨_, rfl, _, _, rfl, .inr (SqT.of e1), rfl, _, rfl, iteF k1⟩
            | false => exact iteF k1
          cases cn : decide (hd = .near) with
          | true => exact iteT ⟨_, rfl, _, _, rfl, .inr (SqT.of e1), rfl, _, rfl, iteF ⟨_, rfl, a2, _, 0, _, rfl, rfl, SqT.of e1, atI_nat (j := 0) rfl, hh.sc _, gp⟩⟩
          | false => exact iteF (iteF ⟨_, rfl, a2, _, 0, _, rfl, rfl, SqT.of e1, atI_nat (j := 0) rfl, hh.sc _, gp⟩)
        cases hd with
        | modulus =>
          have ep1 := ep.same s01
          have eq1 := eq.same s01
          have k1 : Q (.bl (decide (2 ≤ m) && (decide (p.1.fmod m = 0) && (decide (q.1.fmod m = 0) && decide ((q.2 - p.2).fmod m ≠ 0))))) H1 := k1
          refine iteT ⟨_, rfl, _, _, rfl, .inr (SqT.of e1), rfl, _, rfl, iteT ?_⟩
          refine ⟨_, rfl, a2, _, 1, _, rfl, rfl, SqT.of e1, atI_nat (j := 1) rfl, _, _, rfl, rfl, _, rfl, ?_⟩
          by_cases c : m < 2
          · rw [decide_eq_true c]
            rw [decide_eq_false (show ¬ 2 ≤ m by omega)] at k1
            exact iteT (iteT k1)
          · rw [decide_eq_false c]
            rw [decide_eq_true (show 2 ≤ m by omega)] at k1
            have m0 : m ≠ 0 := by omega
            refine iteF ⟨_, rfl, a, _, 0, _, rfl, rfl, SqT.of ep1, atI_nat (j := 0) rfl, .inl ⟨_, rfl, _, rfl, a2, _, 1, _, rfl, rfl, SqT.of e1, atI_nat (j := 1) rfl, _, _, rfl, rfl, m0, rfl, _, rfl, ?_⟩⟩
            by_cases c1 : p.1.fmod m = 0
            · rw [decide_eq_true c1] at k1
              refine iteFe (by simp [c1]) ⟨_, rfl, b, _, 0, _, rfl, rfl, SqT.of eq1, atI_nat (j := 0) rfl, .inl ⟨_, rfl, _, rfl, a2, _, 1, _, rfl, rfl, SqT.of e1, atI_nat (j := 1) rfl, _, _, rfl, rfl, m0, rfl, _, rfl, ?_⟩⟩
              by_cases c2 : q.1.fmod m = 0
              · rw [decide_eq_true c2] at k1
                refine iteFe (by simp [c2]) ⟨_, rfl, b, _, 1, _, rfl, rfl, SqT.of eq1, atI_nat (j := 1) rfl, _, rfl, a, _, 1, _, rfl, rfl, SqT.of ep1, atI_nat (j := 1) rfl, _, _, rfl, rfl, .inl ⟨_, rfl, _, rfl, a2, _, 1, _, rfl, rfl, SqT.of e1, atI_nat (j := 1) rfl, _, _, rfl, rfl, m0, rfl, ?_⟩⟩
                have eb9 : (!decide (V.int ((q.2 - p.2).fmod m) = V.int 0)) = decide ((q.2 - p.2).fmod m ≠ 0) := by
                  rw [Bool.eq_iff_iff]
                  simp
                show Q (.bl (!decide (V.int ((q.2 - p.2).fmod m) = V.int 0))) H1
                rw [eb9]
                exact k1
              · rw [decide_eq_false c2] at k1
                exact iteTe (by simp [c2]) k1
            · rw [decide_eq_false c1] at k1
              exact iteTe (by simp [c1]) (iteT k1)
        | near => exact iteF (iteF (late rfl))
        | gap => exact iteF (iteF (late rfl))
        | other => exact iteF (iteF (late rfl))
    | @three a2 h hd i j e hh bi bj =>
      refine ⟨_, rfl, _, _, _, _, _, rfl, ClsV.ty _, .base (.tup e), kit_ty (r := true) (by decide +kernel), _, rfl, iteF ?_⟩
      refine ⟨_, rfl, _, _, rfl, .inr (SqT.of e), n_line, fun tp ntp => ⟨tp, _, rfl, .inr (SqT.of upd_same), rfl, rfl, _, rfl, iteFe (by rfl) ?_⟩⟩
      obtain ⟨H0, z0, s0, _⟩ := mk_at (o := .tup [V.int 2, V.int 3]) ntp
      rw [z0]
      refine comp H0 a2 h [.int i, .int j] [some i, some j] (s0 _ _ e) (.cons (.int i) (.cons (.int j) .nil)) (by simp) _ (fun H1 s1 => iteF ?_)
      have s01 := s0.trans s1
      have e1 := s01 _ _ e
      have k1 := k _ s01
      have ep1 := ep.same s01
      have eq1 := eq.same s01
      have eb1 := eb.same s01
      refine ⟨_, rfl, a2, _, 0, _, rfl, rfl, SqT.of e1, atI_nat (j := 0) rfl, hh.sc _, _, rfl, ?_⟩
      rw [hh.m]
      have cut2 : ∀ {R : VK}, (∀ c H', Same H1 H' → PairAt H' c (i, j) → R (.ref c) H') → tSl (rSlA K) (tVar 3) (tPart (tC (.int 1))) tNoPart [some (.ref a), some (.ref b), some (.ref d), some (.ref a2), none] H1 R := by
        intro R kR
        refine ⟨_, rfl, _, rfl, ?_⟩
        try unfold tNoPart
        exact sl_go2 e1 fun c H' s' e' => kR c H' s' e'
      cases hd with
      | modulus =>
        refine iteT ⟨_, rfl, _, _, rfl, .inr (SqT.of e1), rfl, _, rfl, iteF ?_⟩
        refine ⟨_, rfl, a2, _, 0, _, rfl, rfl, SqT.of e1, atI_nat (j := 0) rfl, hh.sc _, _, rfl, ?_⟩
        rw [hh.n]
        refine iteF (iteF ⟨_, rfl, a2, _, 0, _, rfl, rfl, SqT.of e1, atI_nat (j := 0) rfl, hh.sc _, ?_⟩)
        rw [hh.g]
        exact ⟨_, rfl, iteF k1⟩
      | other =>
        refine iteF (iteF ⟨_, rfl, a2, _, 0, _, rfl, rfl, SqT.of e1, atI_nat (j := 0) rfl, hh.sc _, _, rfl, ?_⟩)
        rw [hh.n]
        refine iteF (iteF ⟨_, rfl, a2, _, 0, _, rfl, rfl, SqT.of e1, atI_nat (j := 0) rfl, hh.sc _, ?_⟩)
        rw [hh.g]
        exact ⟨_, rfl, iteF k1⟩
      | near =>
        refine iteF (iteF ⟨_, rfl, a2, _, 0, _, rfl, rfl, SqT.of e1, atI_nat (j := 0) rfl, hh.sc _, _, rfl, ?_⟩)
        rw [hh.n]
        refine iteT ⟨_, rfl, _, _, rfl, .inr (SqT.of e1), rfl, _, rfl, iteT ?_⟩
        refine ⟨_, rfl, _, rfl, _, rfl, cut2 fun c H2 s2 ec => ⟨a, b, d, c, p, q, bd, (i, j), rfl, ep1.same s2, eq1.same s2, eb1.same s2, ec, ps, bi, bj, fun H' s' => ?_⟩⟩
        rw [near_eq p q bd (i, j) ps.nz]
        exact k _ (s01.trans (s2.trans s'))
      | gap =>
        refine iteF (iteF ⟨_, rfl, a2, _, 0, _, rfl, rfl, SqT.of e1, atI_nat (j := 0) rfl, hh.sc _, _, rfl, ?_⟩)
        rw [hh.n]
        refine iteF (iteF ⟨_, rfl, a2, _, 0, _, rfl, rfl, SqT.of e1, atI_nat (j := 0) rfl, hh.sc _, ?_⟩)
        rw [hh.g]
        refine ⟨_, rfl, iteT ⟨_, rfl, _, _, rfl, .inr (SqT.of e1), rfl, _, rfl, iteT ?_⟩⟩
        refine ⟨_, rfl, _, rfl, _, rfl, cut2 fun c H2 s2 ec => ⟨a, b, d, c, p, q, bd, (i, j), rfl, ep1.same s2, eq1.same s2, eb1.same s2, ec, ps, bi, bj, fun H' s' => ?_⟩⟩
        rw [gap_eq]
        exact k _ (s01.trans (s2.trans s'))
end
end K11
namespace K11
open PySem L2
open L2.My
open Met
/-- all but the dice is kept -/
structure Kd (d : Addr) (H H' : Hp) : Prop where
  dice : Dice H' d
  but : ∀ b o, b ≠ d → H b = some o → H' b = some o
theorem Dice.same {H H' : Hp} {d : Addr} (h : Dice H d) (s : Same H H') : Dice H' d := by
  obtain ⟨a, b, c, e, r⟩ := h
  exact ⟨a, b, c, s _ _ e, r⟩
theorem Kd.of {d : Addr} {H H' : Hp} (h : Dice H d) (s : Same H H') : Kd d H H' := ⟨Dice.same h s, fun b o _ e => s _ _ e⟩
theorem Kd.ob {d : Addr} {H H' : Hp} (h : Dice H' d) (u : But d H H') : Kd d H H' := ⟨h, fun b o n e => (u b n).trans e⟩
theorem Kd.trans {d : Addr} {H H1 H2 : Hp} (a : Kd d H H1) (b : Kd d H1 H2) : Kd d H H2 := ⟨b.dice, fun x o n e => b.but _ _ n (a.but _ _ n e)⟩
theorem Kd.tt {d : Addr} {H H' : Hp} (k : Kd d H H') (h : Dice H d) : TT H H' := by
  intro b xs e
  refine k.but _ _ ?_ e
  rintro rfl
  obtain ⟨_, _, _, z, _⟩ := h
  rw [z] at e
  cases e
theorem PairAt.tt {H H' : Hp} {a : Addr} {e : Pr} (h : PairAt H a e) (s : TT H H') : PairAt H' a e := s _ _ h
theorem BdAt.tt {H H' : Hp} {a : Addr} {b : Bd} (h : BdAt H a b) (s : TT H H') : BdAt H' a b := s _ _ h
theorem PPAt.tt {H H' : Hp} {t : Addr} {p : PP} (h : PPAt H t p) (s : TT H H') : PPAt H' t p := by
  cases p <;> exact s _ _ h
theorem LineAt.tt {H H' : Hp} {t : Addr} {l : Line} (h : LineAt H t l) (s : TT H H') : LineAt H' t l := by
  obtain ⟨a, b, e, x, y⟩ := h
  exact ⟨a, b, s _ _ e, x.tt s, y.tt s⟩
theorem OLine.tt {H H' : Hp} {o : Option Line} {v : V} (h : OLine H o v) (s : TT H H') : OLine H' o v := by
  cases o with
  | none => exact h
  | some l =>
    obtain ⟨t, e, x⟩ := h
    exact ⟨t, e, x.tt s⟩
theorem OSpan.tt {H H' : Hp} {o : Option Span} {v : V} (h : OSpan H o v) (s : TT H H') : OSpan H' o v := by
  cases o with
  | none => exact h
  | some l =>
    obtain ⟨t, e, x⟩ := h
    exact ⟨t, e, s _ _ x⟩
theorem OPair.tt {H H' : Hp} {o : Option Pr} {v : V} (h : OPair H o v) (s : TT H H') : OPair H' o v := by
  cases o with
  | none => exact h
  | some l =>
    obtain ⟨t, e, x⟩ := h
    exact ⟨t, e, s _ _ x⟩
theorem MetOf.tt {H H' : Hp} {p q : Pr} {b : Bd} {ta ba : Addr} {vl vn vs vt vr : V} {t : Addr} (m : MetOf H p q b ta ba vl vn vs vt vr t) (s : TT H H') : MetOf H' p q b ta ba vl vn vs vt vr t := by
  obtain ⟨⟨pa, qa, e, e1, e2⟩, h1, h2, h3, h4, h5, h6, h7⟩ := m
  exact ⟨⟨pa, qa, s _ _ e, e1.tt s, e2.tt s⟩, h1.tt s, h2.tt s, h3.tt s, h4.tt s, h5.tt s, h6.tt s, h7.tt s⟩
theorem MetAt.kd {C x d : Addr} {H H' : Hp} {p q : Pr} {b : Bd} (m : MetAt C H x p q b) (k : Kd d H H') (h : Dice H d) : MetAt C H' x p q b := by
  obtain ⟨dx, ta, ba, vl, vn, vs, vt, vr, t, e, o⟩ := m
  refine ⟨dx, ta, ba, vl, vn, vs, vt, vr, t, k.but _ _ ?_ e, o.tt (k.tt h)⟩
  rintro rfl
  obtain ⟨_, _, _, z, _⟩ := h
  rw [z] at e
  cases e
theorem B.small {n : Nat} {i : Int} (h : i.natAbs < 1024) (l : 10 ≤ n := by omega) : B n i := B.up (n := 10) h l
theorem B.draw {i : Int} (h0 : -(10 ^ 18) < i) (h1 : i < 10 ^ 18) : B 60 i := by
  have e1 : (10 : Int) ^ 18 = 1000000000000000000 := by decide
  have e2 : (2 : Nat) ^ 60 = 1152921504606846976 := by decide
  rw [e1] at h0 h1
  unfold B
  rw [e2]
  omega
section
variable {P : Program} {w : World} {K : PySem.W.Frag} {mg : Str → Option Value} {base : Heap}
/-! ### _law_steps -/
def spSteps : Sp := fun vs H Q _ => ∃ d, vs = [.ref d] ∧ Dice H d ∧ ∀ t H' e, Kd d H H' → PairAt H' t e → (e.1 ≠ 0 ∨ e.2 ≠ 0) → B 64 e.1 → B 64 e.2 → Q (.ref t) H'
theorem slSteps : FnScope ["_law_dice_here", "_law_one_here", "_law_other"] ["_law_dice_here"] (defScope lSteps) := ⟨rfl, rfl, rfl, by decide +kernel, rfl, by decide +kernel, by decide +kernel⟩
theorem lok_steps {f fN fW : Addr} {fd fdN fdW : FuncData} (F : Fun K "_law_steps" "_law_steps" lSteps f fd) (dN : Dn P w K mg base CX0 "_law_next" ["_law_dice_here", "_law_many"] 1 spNext fN fdN) (dW : Dn P w K mg base CX0 "_law_whole" ["_law_dice_here"] 3 spDraw fW fdW) :
    FnOk P w K mg base CX0 4 f fd ["_law_dice_here"] spSteps := by
  refine F.ok slSteps (fun vs H Q E h => ?_) (fun cdv A outer s H vs Q E hr h => ?_)
  · obtain ⟨d, rfl, _⟩ := h
    rfl
  · obtain ⟨d, rfl, D, k⟩ := h
    have hr1 : Room 1 _ := hr.mono (by decide)
    refine ⟨_, pss_cons (ps_par (i := 1) (j := 2) rfl slSteps.nd rfl rfl (by decide) rfl rfl (pa_cons (pe_call dW.G hr rfl dW.g dW.kp dW.b .nil pass0 (pa_cons (pv 0) pa_nil)) (pa_cons (pe_call dW.G hr rfl dW.g dW.kp dW.b .nil pass0 (pa_cons (pv 0) pa_nil)) pa_nil)) (by rfl))
      (pss_cons (ps_if (pt_cmpR op_eq (pe_call dN.G hr1 rfl dN.g dN.kp dN.b .nil pass0 (pa_cons (pv 0) (pa_cons pe_int pa_nil))) pe_int (nomark _)) (pss_one (ps_set (i := 2) slSteps.nd rfl (.inl rfl) (pv 1))) pss_nil)
      (pss_one (ps_ret (pe_ifExp (PW.pt (pw_and (pt_cmpR op_eq (pv 1) pe_int (nomark _)) (pw_and1 (pt_cmpR op_eq (pv 2) pe_int (nomark _))))) (pe_tup (pa_cons pe_int (pa_cons pe_int pa_nil))) (pe_tup (pa_cons (pv 1) (pa_cons (pv 2) pa_nil))))))), ?_⟩
    refine ⟨_, rfl, d, rfl, D, fun a H1 a0 a1 D1 u1 => ?_⟩
    refine ⟨_, rfl, d, rfl, D1, fun b H2 b0 b1 D2 u2 => ⟨_, _, rfl, ?_⟩⟩
    refine ⟨_, rfl, d, 6, rfl, by decide, by decide, D2, fun r H3 r0 r1 D3 u3 => ⟨rfl, _, rfl, ?_⟩⟩
    have kd : Kd d H H3 := (Kd.ob D1 u1).trans ((Kd.ob D2 u2).trans (Kd.ob D3 u3))
    have ba := B.draw a0 a1
    have bb := B.draw b0 b1
    have fin : ∀ c : Int, B 60 c → tIf (tAnd (tTest (tOp rEq (tVar 1) (tC (.int 0)))) (tTest (tOp rEq (tVar 2) (tC (.int 0))))) (tTup (tCons (tC (.int 1)) (tCons (tC (.int 0)) tNil))) (tTup (tCons (tVar 1) (tCons (tVar 2) tNil)))
        [some (.ref d), some (.int a), some (.int c)] H3 Q := by
      intro c bc
      refine ⟨_, rfl, rfl, _, rfl, ?_⟩
      by_cases c1 : a = 0
      · refine iteTe (by simp [c1]) ⟨_, rfl, rfl, _, rfl, ?_⟩
        by_cases c2 : c = 0
        · exact iteTe (by simp [c2]) ⟨n_line, fun t nt => k t _ (1, 0) (kd.trans (.of D3 (grow nt))) upd_same (.inl (by decide)) .one (B.small (by decide))⟩
        · exact iteFe (by simp [c2]) ⟨_, rfl, _, rfl, n_line, fun t nt => k t _ (a, c) (kd.trans (.of D3 (grow nt))) upd_same (.inr c2) ba.up bc.up⟩
      · exact iteFe (by simp [c1]) (iteF ⟨_, rfl, _, rfl, n_line, fun t nt => k t _ (a, c) (kd.trans (.of D3 (grow nt))) upd_same (.inl c1) ba.up bc.up⟩)
    refine ite2 (fun _ => ?_) (fun _ => ?_)
    · exact ⟨_, rfl, fin a ba⟩
    · exact fin b bb
/-! ### _law_places -/
structure PS64 (p q : Pr) : Prop where
  h1 : B 64 p.1
  h2 : B 64 p.2
  h3 : B 64 q.1
  h4 : B 64 q.2
  nz : p.1 ≠ 0 ∨ q.1 ≠ 0
def spPlaces : Sp := fun vs H Q _ => ∃ d, vs = [.ref d] ∧ Dice H d ∧ ∀ t H' pa qa p q, Kd d H H' → H' t = some (.tup [.ref pa, .ref qa]) → PairAt H' pa p → PairAt H' qa q → PS64 p q → Q (.ref t) H'
theorem slPlaces : FnScope ["_law_dice_here", "_law_one_here", "_law_other", "_law_steps_here"] ["_law_dice_here"] (defScope lPlaces) := ⟨rfl, rfl, rfl, by decide +kernel, rfl, by decide +kernel, by decide +kernel⟩
theorem lok_places {f fN fW fS : Addr} {fd fdN fdW fdS : FuncData} (F : Fun K "_law_places" "_law_places" lPlaces f fd) (dN : Dn P w K mg base CX0 "_law_next" ["_law_dice_here", "_law_many"] 1 spNext fN fdN) (dW : Dn P w K mg base CX0 "_law_whole" ["_law_dice_here"] 3 spDraw fW fdW)
    (dS : Dn P w K mg base CX0 "_law_steps" ["_law_dice_here"] 4 spSteps fS fdS) : FnOk P w K mg base CX0 5 f fd ["_law_dice_here"] spPlaces := by
  refine F.ok slPlaces (fun vs H Q E h => ?_) (fun cdv A outer s H vs Q E hr h => ?_)
  · obtain ⟨d, rfl, _⟩ := h
    rfl
  · obtain ⟨d, rfl, D, k⟩ := h
    have hr1 : Room 1 _ := hr.mono (by decide)
    have hr3 : Room 3 _ := hr.mono (by decide)
    refine ⟨_, pss_cons (ps_if (pt_cmpR op_eq (pe_call dN.G hr1 rfl dN.g dN.kp dN.b .nil pass0 (pa_cons (pv 0) (pa_cons pe_int pa_nil))) pe_int (nomark _))
        (pss_cons (ps_par (i := 1) (j := 2) rfl slPlaces.nd rfl rfl (by decide) rfl rfl (pa_cons (pe_op op_sub (pe_call dN.G hr1 rfl dN.g dN.kp dN.b .nil pass0 (pa_cons (pv 0) (pa_cons pe_int pa_nil))) pe_int) (pa_cons (pe_op op_sub (pe_call dN.G hr1 rfl dN.g dN.kp dN.b .nil pass0 (pa_cons (pv 0) (pa_cons pe_int pa_nil))) pe_int) pa_nil)) (by rfl))
        (pss_cons (ps_set (i := 1) slPlaces.nd rfl (.inl rfl) (pe_ifExp (PW.pt (pw_and (pt_cmpR op_eq (pv 1) pe_int (nomark _)) (pw_and1 (pt_cmpR op_eq (pv 2) pe_int (nomark _))))) pe_int (pv 1)))
        (pss_one (ps_ret (pe_tup (pa_cons (pe_tup (pa_cons (pv 1) (pa_cons (pe_op op_sub (pe_call dN.G hr1 rfl dN.g dN.kp dN.b .nil pass0 (pa_cons (pv 0) (pa_cons pe_int pa_nil))) pe_int) pa_nil)))
          (pa_cons (pe_tup (pa_cons (pv 2) (pa_cons (pe_op op_sub (pe_call dN.G hr1 rfl dN.g dN.kp dN.b .nil pass0 (pa_cons (pv 0) (pa_cons pe_int pa_nil))) pe_int) pa_nil))) pa_nil))))))) pss_nil)
      (pss_cons (ps_set (i := 3) slPlaces.nd rfl (.inl rfl) (pe_call dS.G hr rfl dS.g dS.kp dS.b .nil pass0 (pa_cons (pv 0) pa_nil)))
      (pss_one (ps_ret (pe_tup (pa_cons (pe_tup (pa_cons (pe_ix ix_tup (pv 3) pe_int (fun _ _ => rfl)) (pa_cons (pe_call dW.G hr3 rfl dW.g dW.kp dW.b .nil pass0 (pa_cons (pv 0) pa_nil)) pa_nil)))
          (pa_cons (pe_tup (pa_cons (pe_ix ix_tup (pv 3) pe_int (fun _ _ => rfl)) (pa_cons (pe_call dW.G hr3 rfl dW.g dW.kp dW.b .nil pass0 (pa_cons (pv 0) pa_nil)) pa_nil))) pa_nil)))))), ?_⟩
    refine ⟨_, rfl, d, 2, rfl, by decide, by decide, D, fun r H1 r0 r1 D1 u1 => ⟨rfl, _, rfl, ite2 (fun _ => ?_) (fun _ => ?_)⟩⟩
    · refine ⟨_, rfl, d, 9, rfl, by decide, by decide, D1, fun a H2 a0 a1 D2 u2 => ⟨_, _, rfl, rfl, ?_⟩⟩
      refine ⟨_, rfl, d, 9, rfl, by decide, by decide, D2, fun b H3 b0 b1 D3 u3 => ⟨_, _, rfl, rfl, _, _, rfl, ?_⟩⟩
      have kd : Kd d H H3 := (Kd.ob D1 u1).trans ((Kd.ob D2 u2).trans (Kd.ob D3 u3))
      have fin : ∀ c : Int, B 64 c → (c ≠ 0 ∨ b - 4 ≠ 0) → tRet (tTup (tCons (tTup (tCons (tVar 1) (tCons (tOp (rI0 fun i j => .int (i - j)) (tCall spNext [] E0 (tCons (tVar 0) (tCons (tC (.int 25)) tNil))) (tC (.int 12))) tNil)))
          (tCons (tTup (tCons (tVar 2) (tCons (tOp (rI0 fun i j => .int (i - j)) (tCall spNext [] E0 (tCons (tVar 0) (tCons (tC (.int 25)) tNil))) (tC (.int 12))) tNil))) tNil)))
          { nx := fun _ H' => Q .non H', rt := Q } [some (.ref d), some (.int c), some (.int (b - 4)), none] H3 := by
        intro c bc nz
        refine ⟨_, rfl, _, rfl, d, 25, rfl, by decide, by decide, D3, fun x H4 x0 x1 D4 u4 => ⟨_, _, rfl, rfl, n_line, fun pa npa => ?_⟩⟩
        obtain ⟨H5, z5, s5, e5⟩ := mk_at (o := .tup [V.int c, V.int (x - 12)]) npa
        rw [z5]
        have D5 := Dice.same D4 s5
        refine ⟨_, rfl, _, rfl, d, 25, rfl, by decide, by decide, D5, fun y H6 y0 y1 D6 u6 => ⟨_, _, rfl, rfl, n_line, fun qa nqa => ?_⟩⟩
        obtain ⟨H7, z7, s7, e7⟩ := mk_at (o := .tup [V.int (b - 4), V.int (y - 12)]) nqa
        rw [z7]
        have D7 := Dice.same D6 s7
        have k57 : Kd d H5 H7 := (Kd.ob D6 u6).trans (.of D6 s7)
        have p7 : PairAt H7 pa (c, x - 12) := k57.tt D5 _ _ e5
        refine ⟨n_line, fun t nt => ?_⟩
        have s8 := grow (o := .tup [V.ref pa, V.ref qa]) nt
        refine k t _ pa qa (c, x - 12) (b - 4, y - 12) (kd.trans ((Kd.ob D4 u4).trans ((Kd.of D4 s5).trans (k57.trans (.of D7 s8))))) upd_same (p7.same s8) (s8 _ _ e7) ⟨bc, ?_, ?_, ?_, nz⟩
        · show B 64 (x - 12)
          exact B.small (by omega)
        · show B 64 (b - 4)
          exact B.small (by omega)
        · show B 64 (y - 12)
          exact B.small (by omega)
      refine ⟨_, rfl, rfl, _, rfl, ?_⟩
      by_cases c1 : a - 4 = 0
      · refine iteTe (by simp [c1]) ⟨_, rfl, rfl, _, rfl, ?_⟩
        by_cases c2 : b - 4 = 0
        · exact iteTe (by simp [c2]) (fin 1 .one (.inl (by decide)))
        · exact iteFe (by simp [c2]) ⟨_, rfl, fin (a - 4) (B.small (by omega)) (.inr c2)⟩
      · exact iteFe (by simp [c1]) (iteF ⟨_, rfl, fin (a - 4) (B.small (by omega)) (.inl c1)⟩)
    · refine ⟨_, rfl, d, rfl, D1, fun st H2 e k2 es nz b1 b2 => ?_⟩
      have kd : Kd d H H2 := (Kd.ob D1 u1).trans k2
      have D2 := k2.dice
      refine ⟨_, rfl, st, _, 0, _, rfl, rfl, SqT.of es, atI_nat (j := 0) rfl, _, rfl, d, rfl, D2, fun x H4 x0 x1 D4 u4 => ⟨n_line, fun pa npa => ?_⟩⟩
      obtain ⟨H5, z5, s5, e5⟩ := mk_at (o := .tup [V.int e.1, V.int x]) npa
      rw [z5]
      have D5 := Dice.same D4 s5
      have k25 : Kd d H2 H5 := (Kd.ob D4 u4).trans (.of D4 s5)
      have es5 := es.tt (k25.tt D2)
      refine ⟨_, rfl, st, _, 1, _, rfl, rfl, SqT.of es5, atI_nat (j := 1) rfl, _, rfl, d, rfl, D5, fun y H6 y0 y1 D6 u6 => ⟨n_line, fun qa nqa => ?_⟩⟩
      obtain ⟨H7, z7, s7, e7⟩ := mk_at (o := .tup [V.int e.2, V.int y]) nqa
      rw [z7]
      have D7 := Dice.same D6 s7
      have k57 : Kd d H5 H7 := (Kd.ob D6 u6).trans (.of D6 s7)
      have p7 : PairAt H7 pa (e.1, x) := k57.tt D5 _ _ e5
      refine ⟨n_line, fun t nt => ?_⟩
      have s8 := grow (o := .tup [V.ref pa, V.ref qa]) nt
      exact k t _ pa qa (e.1, x) (e.2, y) (kd.trans (k25.trans (k57.trans (.of D7 s8)))) upd_same (p7.same s8) (s8 _ _ e7) ⟨b1, (B.draw x0 x1).up, b2, (B.draw y0 y1).up, nz⟩
end
end K11
namespace K11
open PySem L2
open L2.My
open Met
theorem BOk.mk' {low first : Int} {high rounds : Option Int} (l0 : 0 ≤ low) (l1 : low < 100) (f0 : 0 ≤ first) (f1 : first < 100) (hh : ∀ h, high = some h → -100 < h ∧ h < 100) (hr : ∀ r, rounds = some r → 0 ≤ r ∧ r < 100) : BOk ⟨low, high, first, rounds⟩ :=
  ⟨⟨B.small (by show low.natAbs < 1024; omega), fun h e => B.small (by have := hh h e; omega), B.small (by show first.natAbs < 1024; omega), fun r e => B.small (by have := hr r e; omega)⟩, l0, f0, fun r e => (hr r e).1⟩
section
variable {P : Program} {w : World} {K : PySem.W.Frag} {mg : Str → Option Value} {base : Heap}
/-! ### _law_bounds -/
def spBounds : Sp := fun vs H Q _ => ∃ d, vs = [.ref d, .int 9] ∧ Dice H d ∧ ∀ t H' b, Kd d H H' → BdAt H' t b → BOk b → Q (.ref t) H'
theorem slBounds : FnScope ["_law_dice_here", "_law_most", "_law_low", "_law_high", "_law_first"] ["_law_dice_here", "_law_most"] (defScope lBounds) := ⟨rfl, rfl, rfl, by decide +kernel, rfl, by decide +kernel, by decide +kernel⟩
theorem lok_bounds {f fN : Addr} {fd fdN : FuncData} (F : Fun K "_law_bounds" "_law_bounds" lBounds f fd) (dN : Dn P w K mg base CX0 "_law_next" ["_law_dice_here", "_law_many"] 1 spNext fN fdN) : FnOk P w K mg base CX0 2 f fd ["_law_dice_here", "_law_most"] spBounds := by
  refine F.ok slBounds (fun vs H Q E h => ?_) (fun cdv A outer s H vs Q E hr h => ?_)
  · obtain ⟨d, rfl, _⟩ := h
    rfl
  · obtain ⟨d, rfl, D, k⟩ := h
    refine ⟨_, pss_cons (ps_set (i := 2) slBounds.nd rfl (.inl rfl) (pe_call dN.G hr rfl dN.g dN.kp dN.b .nil pass0 (pa_cons (pv 0) (pa_cons (pv 1) pa_nil))))
      (pss_cons (ps_set (i := 3) slBounds.nd rfl (.inl rfl) (pe_ifExp (pt_cmpR op_eq (pe_call dN.G hr rfl dN.g dN.kp dN.b .nil pass0 (pa_cons (pv 0) (pa_cons pe_int pa_nil))) pe_int (nomark _)) (pe_op op_add (pe_op op_sub (pv 2) pe_int) (pe_call dN.G hr rfl dN.g dN.kp dN.b .nil pass0 (pa_cons (pv 0) (pa_cons (pv 1) pa_nil)))) pe_non))
      (pss_cons (ps_set (i := 4) slBounds.nd rfl (.inl rfl) (pe_ifExp (pt_cmpR op_eq (pe_call dN.G hr rfl dN.g dN.kp dN.b .nil pass0 (pa_cons (pv 0) (pa_cons pe_int pa_nil))) pe_int (nomark _)) (pe_call dN.G hr rfl dN.g dN.kp dN.b .nil pass0 (pa_cons (pv 0) (pa_cons (pv 1) pa_nil))) pe_int))
      (pss_one (ps_ret (pe_tup (pa_cons (pv 2) (pa_cons (pv 3) (pa_cons (pv 4) (pa_cons (pe_ifExp (pt_cmpR op_eq (pe_call dN.G hr rfl dN.g dN.kp dN.b .nil pass0 (pa_cons (pv 0) (pa_cons pe_int pa_nil))) pe_int (nomark _))
        (pe_call dN.G hr rfl dN.g dN.kp dN.b .nil pass0 (pa_cons (pv 0) (pa_cons (pe_op op_mul pe_int (pv 1)) pa_nil))) pe_non) pa_nil))))))))), ?_⟩
    refine ⟨_, rfl, _, rfl, d, 9, rfl, by decide, by decide, D, fun low H1 l0 l1 D1 u1 => ?_⟩
    have k1 := Kd.ob D1 u1
    -- the rounds
    have s3 : ∀ (high : Option Int) (first : Int) (H3 : Hp), Kd d H H3 → (∀ h, high = some h → -100 < h ∧ h < 100) → 0 ≤ first → first < 100 →
        tRet (tTup (tCons (tVar 2) (tCons (tVar 3) (tCons (tVar 4) (tCons (tIf (tTest (tOp rEq (tCall spNext [] E0 (tCons (tVar 0) (tCons (tC (.int 2)) tNil))) (tC (.int 1)))) (tCall spNext [] E0 (tCons (tVar 0) (tCons (tOp (rI CMul fun i j => .int (i * j)) (tC (.int 3)) (tVar 1)) tNil))) (tC .non)) tNil)))))
          { nx := fun _ H' => Q .non H', rt := Q } [some (.ref d), some (.int 9), some (.int low), some (oV high), some (.int first)] H3 := by
      intro high first H3 k3 hh f0 f1
      refine ⟨_, rfl, _, rfl, _, rfl, _, rfl, d, 2, rfl, by decide, by decide, k3.dice, fun r H4 r0 r1 D4 u4 => ⟨rfl, _, rfl, ite2 (fun _ => ?_) (fun _ => ?_)⟩⟩
      · refine ⟨_, rfl, _, rfl, _, _, rfl, rfl, .inl ⟨by decide, by decide⟩, d, 27, rfl, by decide, by decide, D4, fun r2 H5 r3 r4 D5 u5 => ⟨n_line, fun t nt => ?_⟩⟩
        exact k t _ ⟨low, high, first, some r2⟩ (k3.trans ((Kd.ob D4 u4).trans ((Kd.ob D5 u5).trans (.of D5 (grow nt))))) upd_same (.mk' l0 (by omega) f0 f1 hh (fun r e => by cases e; omega))
      · refine ⟨n_line, fun t nt => ?_⟩
        exact k t _ ⟨low, high, first, none⟩ (k3.trans ((Kd.ob D4 u4).trans (.of D4 (grow nt)))) upd_same (.mk' l0 (by omega) f0 f1 hh (fun r e => by cases e))
    -- the first round
    have s2 : ∀ (high : Option Int) (H3 : Hp), Kd d H H3 → (∀ h, high = some h → -100 < h ∧ h < 100) →
        tSeq (tAsg (tIf (tTest (tOp rEq (tCall spNext [] E0 (tCons (tVar 0) (tCons (tC (.int 2)) tNil))) (tC (.int 1)))) (tCall spNext [] E0 (tCons (tVar 0) (tCons (tVar 1) tNil))) (tC (.int 0))) (gName 4))
          (tRet (tTup (tCons (tVar 2) (tCons (tVar 3) (tCons (tVar 4) (tCons (tIf (tTest (tOp rEq (tCall spNext [] E0 (tCons (tVar 0) (tCons (tC (.int 2)) tNil))) (tC (.int 1)))) (tCall spNext [] E0 (tCons (tVar 0) (tCons (tOp (rI CMul fun i j => .int (i * j)) (tC (.int 3)) (tVar 1)) tNil))) (tC .non)) tNil))))))
          { nx := fun _ H' => Q .non H', rt := Q } [some (.ref d), some (.int 9), some (.int low), some (oV high), none] H3 := by
      intro high H3 k3 hh
      refine ⟨_, rfl, d, 2, rfl, by decide, by decide, k3.dice, fun r H4 r0 r1 D4 u4 => ⟨rfl, _, rfl, ite2 (fun _ => ?_) (fun _ => ?_)⟩⟩
      · refine ⟨_, rfl, _, rfl, d, 9, rfl, by decide, by decide, D4, fun f H5 f0 f1 D5 u5 => ?_⟩
        exact s3 high f H5 (k3.trans ((Kd.ob D4 u4).trans (Kd.ob D5 u5))) hh f0 (by omega)
      · exact s3 high 0 H4 (k3.trans (Kd.ob D4 u4)) hh (by decide) (by decide)
    refine ⟨_, rfl, d, 2, rfl, by decide, by decide, D1, fun r H4 r0 r1 D4 u4 => ⟨rfl, _, rfl, ite2 (fun _ => ?_) (fun _ => ?_)⟩⟩
    · refine ⟨_, rfl, _, _, rfl, rfl, _, rfl, _, rfl, d, 9, rfl, by decide, by decide, D4, fun f H5 f0 f1 D5 u5 => ⟨_, _, rfl, rfl, ?_⟩⟩
      exact s2 (some (low - 2 + f)) H5 (k1.trans ((Kd.ob D4 u4).trans (Kd.ob D5 u5))) (fun h e => by cases e; omega)
    · exact s2 none H4 (k1.trans (Kd.ob D4 u4)) (fun h e => by cases e)
/-! ### _law_made -/
abbrev pInit : List Str := ["self", "place", "other", "low", "high", "first", "rounds"]
def gV1 (vs zs : List V) : List V := vs ++ (zs ++ [.non, .int 0, .non])
def gV2 (vs zs : List V) : List V := vs ++ (match zs with | [f, l] => [l, .non, f, .non] | _ => [])
def gV3 (vs zs : List V) : List V := vs ++ zs
/-- how the class is called -/
structure CallM (K : PySem.W.Frag) (fd : FuncData) : Prop where
  c0 : ∃ ds, Vals [.int 0, .non, .int 0, .non] ds ∧ Binds K fd pInit ds
  c1 : ∃ g, KBn K fd pInit 3 ["low"] g gV1
  c2 : ∃ g, KBn K fd pInit 3 ["first", "low"] g gV2
  c3 : ∃ g, KBn K fd pInit 3 ["low", "high", "first", "rounds"] g gV3
def spMade (C : Addr) : Sp := fun vs H Q _ => ∃ a b d p q bd, vs = [.ref a, .ref b, .ref d] ∧ PairAt H a p ∧ PairAt H b q ∧ BdAt H d bd ∧ PSz p q ∧ BOk bd ∧ ∀ x H', Same H H' → MetAt C H' x p q bd → Q (.ref x) H'
theorem slMade : FnScope ["_law_place", "_law_other", "_law_bounds_here", "_law_low", "_law_high", "_law_first", "_law_rounds"] ["_law_place", "_law_other", "_law_bounds_here"] (defScope lMade) := ⟨rfl, rfl, rfl, by decide +kernel, rfl, by decide +kernel, by decide +kernel⟩
theorem lok_made {f fI C : Addr} {fd fdI : FuncData} (F : Fun K "_law_made" "_law_made" lMade f fd) (gC : mg "Meetings" = some (.ref C)) (M : Mk K C fI) (GI : FnOk P w K mg base CX0 5 fI fdI pInit (spInit C)) (cm : CallM K fdI) :
    FnOk P w K mg base CX0 7 f fd ["_law_place", "_law_other", "_law_bounds_here"] (spMade C) := by
  refine F.ok slMade (fun vs H Q E h => ?_) (fun cdv A outer s H vs Q E hr h => ?_)
  · obtain ⟨a, b, d, p, q, bd, rfl, _⟩ := h
    rfl
  · obtain ⟨a, b, d, p, q, bd, rfl, ep, eq, eb, ps, bo, k⟩ := h
    obtain ⟨ds, v0, b0⟩ := cm.c0
    obtain ⟨g1, kb1⟩ := cm.c1
    obtain ⟨g2, kb2⟩ := cm.c2
    obtain ⟨g3, kb3⟩ := cm.c3
    refine ⟨_, pss_cons (ps_asg (pv 2) (pg_tup rfl (pgs_cons (pg_name (i := 3) slMade.nd rfl (.inl rfl)) (pgs_cons (pg_name (i := 4) slMade.nd rfl (.inl rfl)) (pgs_cons (pg_name (i := 5) slMade.nd rfl (.inl rfl)) (pgs_cons (pg_name (i := 6) slMade.nd rfl (.inl rfl)) pgs_nil))))))
      (pss_cons (ps_if (PW.pt (pw_and (pt_cmpR op_isN (pv 4) pe_non (nomark _)) (pw_and (pt_cmpR op_isN (pv 6) pe_non (nomark _)) (pw_and1 (pt_cmpR op_eq (pv 5) pe_int (nomark _))))))
        (pss_one (ps_ret (pe_ifExp (pt_cmpR op_eq (pv 3) pe_int (nomark _)) (pe_make M GI hr rfl gC b0 v0 pass0 (pa_cons (pv 0) (pa_cons (pv 1) pa_nil))) (pe_makeK (n := 2) M GI hr rfl gC kb1 pass0 (pa_cons (pv 0) (pa_cons (pv 1) pa_nil)) (pk_cons (pv 3) pk_nil))))) pss_nil)
      (pss_cons (ps_if (PW.pt (pw_and (pt_cmpR op_isN (pv 4) pe_non (nomark _)) (pw_and1 (pt_cmpR op_isN (pv 6) pe_non (nomark _)))))
        (pss_one (ps_ret (pe_makeK (n := 2) M GI hr rfl gC kb2 pass0 (pa_cons (pv 0) (pa_cons (pv 1) pa_nil)) (pk_cons (pv 5) (pk_cons (pv 3) pk_nil))))) pss_nil)
      (pss_one (ps_ret (pe_makeK (n := 2) M GI hr rfl gC kb3 pass0 (pa_cons (pv 0) (pa_cons (pv 1) pa_nil)) (pk_cons (pv 3) (pk_cons (pv 4) (pk_cons (pv 5) (pk_cons (pv 6) pk_nil))))))))), ?_⟩
    obtain ⟨low, high, first, rounds⟩ := bd
    have mk : ∀ x dx, H x = none → H dx = none → dx ≠ x → spInit C [.ref x, .ref a, .ref b, .int low, oV high, .int first, oV rounds] (upd (upd H dx (.own x)) x (.ins C dx [])) (fun v H3 => v = .non ∧ Q (.ref x) H3) E0 := by
      intro x dx nx ndx ne
      have s0 : Same H (upd (upd H dx (.own x)) x (.ins C dx [])) := fun y o e => by
        rw [upd_ne (ne_of_none e nx), upd_ne (ne_of_none e ndx)]
        exact e
      exact ⟨H, x, dx, a, b, p, q, ⟨low, high, first, rounds⟩, rfl, s0, nx, upd_same, ep.same s0, eq.same s0, ps, bo, fun H' s' m => ⟨rfl, k x H' s' m⟩⟩
    refine ⟨_, rfl, d, _, rfl, SqT.of eb, rfl, _, _, rfl, _, _, rfl, _, _, rfl, _, _, rfl, rfl, ?_⟩
    have third : tRet (tMakeK C 2 4 (spInit C) gV3 E0 (tCons (tVar 0) (tCons (tVar 1) tNil)) (tCons (tVar 3) (tCons (tVar 4) (tCons (tVar 5) (tCons (tVar 6) tNil)))))
        { nx := fun _ H' => Q .non H', rt := Q } [some (.ref a), some (.ref b), some (.ref d), some (.int low), some (oV high), some (.int first), some (oV rounds)] H :=
      ⟨_, rfl, _, rfl, _, rfl, _, rfl, _, rfl, _, rfl, rfl, rfl, mk⟩
    cases high with
    | some h => exact ⟨_, rfl, rfl, _, rfl, iteF (iteF ⟨_, rfl, rfl, _, rfl, iteF (iteF third)⟩)⟩
    | none =>
      cases rounds with
      | some r => exact ⟨_, rfl, rfl, _, rfl, iteT ⟨_, rfl, rfl, _, rfl, iteF (iteF ⟨_, rfl, rfl, _, rfl, iteT ⟨_, rfl, rfl, _, rfl, iteF third⟩⟩)⟩⟩
      | none =>
        refine ⟨_, rfl, rfl, _, rfl, iteT ⟨_, rfl, rfl, _, rfl, iteT ⟨_, rfl, rfl, _, rfl, ?_⟩⟩⟩
        by_cases cf : first = 0
        · subst cf
          refine iteTe (by simp) ⟨_, rfl, rfl, _, rfl, ?_⟩
          by_cases cl : low = 0
          · subst cl
            exact iteTe (by simp) ⟨_, rfl, _, rfl, mk⟩
          · exact iteFe (by simp [cl]) ⟨_, rfl, _, rfl, _, rfl, rfl, rfl, mk⟩
        · refine iteFe (by simp [cf]) ⟨_, rfl, rfl, _, rfl, iteT ⟨_, rfl, rfl, _, rfl, iteT ?_⟩⟩
          exact ⟨_, rfl, _, rfl, _, rfl, _, rfl, rfl, rfl, mk⟩
end
end K11
namespace K11
open PySem L2
open L2.My
open Met
def PRs (H : Hp) (vs : List V) : Prop := ∀ v ∈ vs, ∃ t e, v = .ref t ∧ PairAt H t e ∧ B 1400 e.1 ∧ B 1400 e.2
theorem PRs.tt {H H' : Hp} {vs : List V} (p : PRs H vs) (s : TT H H') : PRs H' vs := fun v m => by
  obtain ⟨t, e, ev, et, b⟩ := p v m
  exact ⟨t, e, ev, et.tt s, b⟩
theorem PRs.nil {H : Hp} : PRs H [] := fun v m => absurd m List.not_mem_nil
theorem PRs.app {H : Hp} {xs ys : List V} (p : PRs H xs) (q : PRs H ys) : PRs H (xs ++ ys) := fun v m => by
  rcases List.mem_append.mp m with m | m
  · exact p v m
  · exact q v m
theorem PRs.one {H : Hp} {t : Addr} {e : Pr} {vs : List V} (h : PairAt H t e) (b1 : B 1400 e.1) (b2 : B 1400 e.2) (r : PRs H vs) : PRs H (.ref t :: vs) := fun v m => by
  rcases List.mem_cons.mp m with rfl | m
  · exact ⟨t, e, rfl, h, b1, b2⟩
  · exact r v m
/-- a list that grows beside the dice -/
structure Gl (d l : Addr) (H0 : Hp) (xs : List V) (H : Hp) : Prop where
  kd : Kd d H0 H
  nl : H0 l = none
  ne : l ≠ d
  at_ : H l = some (.lst xs)
theorem Gl.on {d l : Addr} {H0 H H' : Hp} {xs : List V} (g : Gl d l H0 xs H) (k : Kd d H H') : Gl d l H0 xs H' := ⟨g.kd.trans k, g.nl, g.ne, k.but _ _ g.ne g.at_⟩
theorem Gl.same {d l : Addr} {H0 H H' : Hp} {xs : List V} (g : Gl d l H0 xs H) (s : Same H H') : Gl d l H0 xs H' := g.on (.of g.kd.dice s)
theorem Gl.put {d l : Addr} {H0 H : Hp} {xs ys : List V} (g : Gl d l H0 xs H) : Gl d l H0 ys (upd H l (.lst ys)) := by
  refine ⟨⟨?_, fun b o n e => ?_⟩, g.nl, g.ne, upd_same⟩
  · obtain ⟨a, b, c, e, r⟩ := g.kd.dice
    exact ⟨a, b, c, by rw [upd_ne g.ne.symm]; exact e, r⟩
  · rw [upd_ne (ne_of_none e g.nl)]
    exact g.kd.but _ _ n e
theorem Gl.ptt {d l : Addr} {H0 H : Hp} {xs : List V} {o : HO} (g : Gl d l H0 xs H) : TT H (upd H l o) := .put g.at_
/-- sizes of a paper -/
def PB : PP → Prop
  | .modulus _ => True
  | .near e => B 1100 e.1 ∧ B 1100 e.2
  | .gap e => B 1100 e.1 ∧ B 1100 e.2
theorem paper_sz {p q : Pr} {b : Bd} (ps : PSz p q) (bo : BOk b) : PB (paperOf p q b) := by
  unfold paperOf
  cases hl : lineOf p q with
  | none => exact True.intro
  | some l =>
    have sz := line_sz ps.h1 ps.h2 ps.h3 ps.h4 hl
    have at_ : ∀ k, B 711 k → B 1100 (after l.base l.step k).1 ∧ B 1100 (after l.base l.step k).2 := fun k bk =>
      ⟨((sz.b1.up (m := 1011)).add ((sz.s1.mul bk).up)).up, ((sz.b2.up (m := 1011)).add ((sz.s2.mul bk).up)).up⟩
    cases hs : spanOf (limits l b) with
    | none =>
      simp only [hs]
      cases c : limits l b with
      | none => exact at_ 0 (B.small (by decide))
      | some x =>
        obtain ⟨m, hm, bm⟩ := lm_sz sz bo.bb hs x c
        show B 1100 (after l.base l.step (x.1.max?.getD 0 - 1)).1 ∧ B 1100 (after l.base l.step (x.1.max?.getD 0 - 1)).2
        rw [hm]
        exact at_ (m - 1) (bm.sub .one)
    | some s =>
      obtain ⟨e, he, hn⟩ := paper_near ps.nz hl hs
      have ss := span_sz sz bo.bb hs
      simp only [hs, he]
      show B 1100 e.1 ∧ B 1100 e.2
      unfold least at he
      by_cases c : up (l.step.2 - l.step.1) l.step.2 = true
      · rw [if_pos c] at he
        cases h1 : s.1 with
        | none =>
          rw [h1] at he
          cases he
        | some a =>
          rw [h1] at he
          have he := Option.some.inj he
          subst he
          exact at_ a (ss.1 a h1).up
      · rw [if_neg c] at he
        cases h1 : s.2 with
        | none =>
          rw [h1] at he
          cases he
        | some a =>
          rw [h1] at he
          have he := Option.some.inj he
          subst he
          exact at_ a (ss.2 a h1).up
theorem if_tail {T : V → Hp → Prop} {ta tb : TE} {σ : L2.St} {H : Hp} {R : V → Hp → Prop} {c : Bool} (tail : ∀ v H', T v H' → R v H') (h1 : c = true → (∀ v H', T v H' → R v H') → ta σ H R)
    (h2 : c = false → (∀ v H', T v H' → R v H') → tb σ H R) : if c = true then ta σ H R else tb σ H R := by
  cases c with
  | true => exact iteT (h1 rfl tail)
  | false => exact iteF (h2 rfl tail)
section
variable {P : Program} {w : World} {K : PySem.W.Frag} {mg : Str → Option Value} {base : Heap}
def spPairs : Sp := fun vs H Q _ => ∃ a b t d p q pp, vs = [.ref a, .ref b, .ref t, .ref d] ∧ PairAt H a p ∧ PairAt H b q ∧ PSz p q ∧ PPAt H t pp ∧ PB pp ∧ Dice H d ∧
  ∀ l H' xs, Kd d H H' → l ≠ d → H' l = some (.lst xs) → PRs H' xs → xs.length = 10 → Q (.ref l) H'
abbrev nPairs : List Str := ["_law_place", "_law_other", "_law_paper", "_law_dice_here", "_law_pair", "_law_step_here", "_law_turn", "_law_found", "_law_many"]
theorem slPairs : FnScope nPairs ["_law_place", "_law_other", "_law_paper", "_law_dice_here"] (defScope lPairs) := ⟨rfl, rfl, rfl, by decide +kernel, rfl, by decide +kernel, by decide +kernel⟩
theorem lok_pairs {f fN fW fS fM : Addr} {fd fdN fdW fdS fdM : FuncData} (F : Fun K "_law_pairs" "_law_pairs" lPairs f fd) (X : Txt K mg) (hrange : mg "range" = none) (dN : Dn P w K mg base CX0 "_law_next" ["_law_dice_here", "_law_many"] 1 spNext fN fdN) (dW : Dn P w K mg base CX0 "_law_whole" ["_law_dice_here"] 3 spDraw fW fdW)
    (dS : Dn P w K mg base CX0 "_law_step" ["_law_place", "_law_other"] 2 spLStep fS fdS) (dM : Dn P w K mg base CX0 "_law_moved" ["_law_pair", "_law_step_here", "_law_many"] 1 spAfter fM fdM) : FnOk P w K mg base CX0 4 f fd ["_law_place", "_law_other", "_law_paper", "_law_dice_here"] spPairs := by
  refine F.ok slPairs (fun vs H Q E h => ?_) (fun cdv A outer s H vs Q E hr h => ?_)
  · obtain ⟨a, b, t, d, p, q, pp, rfl, _⟩ := h
    rfl
  · obtain ⟨a, b, t, d, p, q, pp, rfl, ep, eq, ps, et, pb, D, k⟩ := h
    have hr1 : Room 1 _ := hr.mono (by decide)
    have hr2 : Room 2 _ := hr.mono (by decide)
    refine ⟨_, pss_cons (ps_set (i := 4) slPairs.nd rfl (.inr rfl) (pe_ifExp (pt_cmpR op_eq (pe_callB call_len_seq (by rfl) X.len PySem.boot_len (pa_cons (pv 2) pa_nil)) pe_int (nomark _)) (pe_slice sl_tupA (pv 2) (po_some pe_int) po_none)
        (pe_tup (pa_cons (pe_call dW.G hr rfl dW.g dW.kp dW.b .nil pass0 (pa_cons (pv 3) pa_nil)) (pa_cons (pe_call dW.G hr rfl dW.g dW.kp dW.b .nil pass0 (pa_cons (pv 3) pa_nil)) pa_nil)))))
      (pss_cons (ps_set (i := 5) slPairs.nd rfl (.inr rfl) (pe_call dS.G hr2 rfl dS.g dS.kp dS.b .nil pass0 (pa_cons (pv 0) (pa_cons (pv 1) pa_nil))))
      (pss_cons (ps_setLc (i := 7) (own := [("_law_turn", 6)]) (g := gName 6) (tt := tYes) (by rfl) slPairs.nd rfl rfl (sw_true rfl rfl rfl (by decide +kernel)) (pi_range1 rfl hrange (pa_cons pe_int pa_nil)) (blkOk_by (own := [("_law_turn", 6)]) (N := nPairs) (sc := defScope lPairs) (by decide +kernel))
        (fun _ _ _ _ _ => pg_name (i := 6) slPairs.nd rfl (Or.inl rfl)) (fun _ _ _ _ _ => pts_nil) (fun _ _ _ _ _ => pe_call dM.G hr1 rfl dM.g dM.kp dM.b .nil pass0 (pa_cons (pv 4) (pa_cons (pv 5) (pa_cons (pe_op op_sub (pv 6) pe_int) pa_nil)))))
      (pss_cons (ps_set (i := 8) slPairs.nd rfl (.inl rfl) (pe_call dN.G hr1 rfl dN.g dN.kp dN.b .nil pass0 (pa_cons (pv 3) (pa_cons pe_int pa_nil))))
      (pss_cons (ps_expr (pe_bm PySem.F.plainAttrs_list PySem.F.slot_list_extend PySem.F.type_list_extend mt_extend (pv 7) (pa_cons (pe_lst (pa_cons (pe_call dM.G hr1 rfl dM.g dM.kp dM.b .nil pass0 (pa_cons (pv 4) (pa_cons (pv 5) (pa_cons (pv 8) pa_nil))))
        (pa_cons (pe_call dM.G hr1 rfl dM.g dM.kp dM.b .nil pass0 (pa_cons (pv 4) (pa_cons (pv 5) (pa_cons (pe_un un_neg (pv 8)) pa_nil)))) pa_nil))) pa_nil)))
      (pss_cons (ps_expr (pe_bm PySem.F.plainAttrs_list PySem.F.slot_list_extend PySem.F.type_list_extend mt_extend (pv 7) (pa_cons (pe_lst (pa_cons (pe_tup (pa_cons (pe_op op_add (pe_ix ix_tup (pv 4) pe_int (fun _ _ => rfl)) pe_int) (pa_cons (pe_ix ix_tup (pv 4) pe_int (fun _ _ => rfl)) pa_nil)))
        (pa_cons (pe_tup (pa_cons (pe_ix ix_tup (pv 4) pe_int (fun _ _ => rfl)) (pa_cons (pe_op op_sub (pe_ix ix_tup (pv 4) pe_int (fun _ _ => rfl)) pe_int) pa_nil))) (pa_cons (pe_tup (pa_cons (pe_ix ix_tup (pv 4) pe_int (fun _ _ => rfl)) (pa_cons (pe_ix ix_tup (pv 4) pe_int (fun _ _ => rfl)) pa_nil))) pa_nil)))) pa_nil)))
      (pss_one (ps_ret (pv 7)))))))), ?_⟩
    -- the paper's items
    obtain ⟨xs, ex, hx⟩ : ∃ xs, H t = some (.tup xs) ∧ ((∃ h i j, xs = [h, .int i, .int j] ∧ B 1100 i ∧ B 1100 j) ∨ xs.length = 2) := by
      cases pp with
      | modulus g => exact ⟨_, et, .inr rfl⟩
      | near e => exact ⟨_, et, .inl ⟨_, _, _, rfl, pb.1, pb.2⟩⟩
      | gap e => exact ⟨_, et, .inl ⟨_, _, _, rfl, pb.1, pb.2⟩⟩
    refine ⟨_, rfl, t, xs, rfl, .inr (SqT.of ex), rfl, _, rfl, if_tail (T := fun v H' => ∃ c e, v = .ref c ∧ Kd d H H' ∧ PairAt H' c e ∧ B 1100 e.1 ∧ B 1100 e.2) ?_ (fun hc tl => ?_) (fun hc tl => ?_)⟩
    case refine_2 =>
      have l3 : (xs.length : Int) = 3 := V.int.inj (of_decide_eq_true hc)
      rcases hx with ⟨h, i, j, rfl, bi, bj⟩ | l2
      · refine ⟨_, rfl, _, rfl, ?_⟩
        try unfold tNoPart
        exact sl_go2 ex fun c H' s' e' => tl _ _ ⟨c, (i, j), rfl, .of D s', e', bi, bj⟩
      · omega
    case refine_3 =>
      refine ⟨_, rfl, d, rfl, D, fun x H1 x0 x1 D1 u1 => ?_⟩
      refine ⟨_, rfl, d, rfl, D1, fun y H2 y0 y1 D2 u2 => ⟨n_line, fun c nc => ?_⟩⟩
      exact tl _ _ ⟨c, (x, y), rfl, (Kd.ob D1 u1).trans ((Kd.ob D2 u2).trans (.of D2 (grow nc))), upd_same, (B.draw x0 x1).up, (B.draw y0 y1).up⟩
    rintro _ H1 ⟨c, e, rfl, k1, ec, b1, b2⟩
    have tt1 := k1.tt D
    refine ⟨_, rfl, _, rfl, a, b, p, q, rfl, ep.tt tt1, eq.tt tt1, ps, fun st H2 s2 es => ?_⟩
    have k2 := k1.trans (.of k1.dice s2)
    have ec2 := ec.same s2
    obtain ⟨bs1, bs2⟩ := step_sz ps
    generalize stepOf p q = sp at es bs1 bs2
    have mv : ∀ i : Int, B 10 i → B 1400 (after e sp i).1 ∧ B 1400 (after e sp i).2 := fun i bi => ⟨((b1.up (m := 1300)).add ((bs1.mul bi).up)).up, ((b2.up (m := 1300)).add ((bs2.mul bi).up)).up⟩
    have line : (1000 : Nat) < sizeLine := by decide
    -- five pairs of the line
    refine ⟨5, rfl, by decide, by decide, fun l nl => lc_range (fun i H' => ∃ vs, Acc H2 l vs H' ∧ vs.length = i ∧ PRs H' vs) ⟨[], Acc.start nl, rfl, .nil⟩ ?_ ?_⟩
    · rintro i H3 hi ⟨vs, a3, lv, pr⟩
      refine ⟨rfl, _, rfl, _, rfl, _, rfl, _, _, rfl, rfl, c, st, e, sp, 0 + (i : Int) - 2, rfl, ec2.same a3.1, es.same a3.1, bs1.up, bs2.up, B.small (by omega), fun t4 H4 s4 e4 => ?_⟩
      obtain ⟨m1, m2⟩ := mv (0 + (i : Int) - 2) (B.small (by omega))
      have a4 := a3.on s4
      refine ⟨_, a4.2.2, by omega, _, a4.put, by simp [lv], ?_⟩
      exact ((pr.tt (.of s4)).app (.one e4 m1 m2 .nil)).tt (.put a4.2.2)
    rintro H3 ⟨vs, a3, lv, pr⟩
    have nld : l ≠ d := by
      rintro rfl
      obtain ⟨_, _, _, z, _⟩ := k2.dice
      rw [nl] at z
      cases z
    have g3 : Gl d l H2 vs H3 := ⟨.of k2.dice a3.1, nl, nld, a3.2.2⟩
    -- many
    refine ⟨_, rfl, d, 1000, rfl, by decide, by decide, g3.kd.dice, fun m H4 m0 m1 D4 u4 => ?_⟩
    have k34 : Kd d H3 H4 := Kd.ob D4 u4
    have t34 := k34.tt g3.kd.dice
    have g4 := g3.on k34
    have pr4 := pr.tt t34
    have ec4 := (ec2.same a3.1).tt t34
    have es4 := (es.same a3.1).tt t34
    show tSeq _ _ _ [some (.ref a), some (.ref b), some (.ref t), some (.ref d), some (.ref c), some (.ref st), none, some (.ref l), some (.int m)] H4
    refine ⟨_, rfl, .inl ⟨rfl, _, SqL.of g4.at_⟩, _, rfl, _, rfl, _, rfl, c, st, e, sp, m, rfl, ec4, es4, bs1.up, bs2.up, B.small (by omega), fun t5 H5 s5 e5 => ?_⟩
    refine ⟨_, rfl, _, rfl, _, rfl, _, rfl, c, st, e, sp, -m, rfl, ec4.same s5, es4.same s5, bs1.up, bs2.up, B.small (by omega), fun t6 H6 s6 e6 => ⟨n_line, fun l7 n7 => ?_⟩⟩
    have s7 := grow (o := .lst [V.ref t5, V.ref t6]) n7
    have s47 := s5.trans (s6.trans s7)
    have g7 := g4.same s47
    obtain ⟨x1, x2⟩ := mv m (B.small (by omega))
    obtain ⟨x3, x4⟩ := mv (-m) (B.small (by omega))
    have pr7 : PRs (upd H6 l7 (.lst [V.ref t5, V.ref t6])) (vs ++ [V.ref t5, V.ref t6]) := (pr4.tt (.of s47)).app (.one (e5.same (s6.trans s7)) x1 x2 (.one (e6.same s7) x3 x4 .nil))
    refine ⟨l, l7, vs, [V.ref t5, V.ref t6], rfl, rfl, g7.at_, upd_same, by simp; omega, ?_⟩
    have g8 := g7.put (ys := vs ++ [V.ref t5, V.ref t6])
    have t78 : TT _ (upd (upd H6 l7 (.lst [V.ref t5, V.ref t6])) l (.lst (vs ++ [V.ref t5, V.ref t6]))) := g7.ptt
    have pr8 := pr7.tt t78
    have ec8 := (ec4.same s47).tt t78
    revert g8 pr8 ec8
    generalize upd (upd H6 l7 (.lst [V.ref t5, V.ref t6])) l (.lst (vs ++ [V.ref t5, V.ref t6])) = H8
    intro g8 pr8 ec8
    -- three beside it
    refine ⟨_, rfl, .inl ⟨rfl, _, SqL.of g8.at_⟩, ?_⟩
    refine ⟨_, rfl, c, _, 0, _, rfl, rfl, SqT.of ec8, atI_nat (j := 0) rfl, _, _, rfl, rfl, _, rfl, c, _, 1, _, rfl, rfl, SqT.of ec8, atI_nat (j := 1) rfl, n_line, fun q1 m1 => ?_⟩
    obtain ⟨H9, z9, s9, e9⟩ := mk_at (o := .tup [V.int (e.1 + 1), V.int e.2]) m1
    rw [z9]
    have ec9 := ec8.same s9
    refine ⟨_, rfl, c, _, 0, _, rfl, rfl, SqT.of ec9, atI_nat (j := 0) rfl, _, rfl, c, _, 1, _, rfl, rfl, SqT.of ec9, atI_nat (j := 1) rfl, _, _, rfl, rfl, n_line, fun q2 m2 => ?_⟩
    obtain ⟨H10, z10, s10, e10⟩ := mk_at (o := .tup [V.int e.1, V.int (e.2 - 1)]) m2
    rw [z10]
    have ec10 := ec9.same s10
    refine ⟨_, rfl, c, _, 1, _, rfl, rfl, SqT.of ec10, atI_nat (j := 1) rfl, _, rfl, c, _, 0, _, rfl, rfl, SqT.of ec10, atI_nat (j := 0) rfl, n_line, fun q3 m3 => ?_⟩
    obtain ⟨H11, z11, s11, e11⟩ := mk_at (o := .tup [V.int e.2, V.int e.1]) m3
    rw [z11]
    refine ⟨n_line, fun l12 n12 => ?_⟩
    have s12 := grow (o := .lst [V.ref q1, V.ref q2, V.ref q3]) n12
    have s8c := s9.trans (s10.trans (s11.trans s12))
    have g12 := g8.same s8c
    have pr12 : PRs (upd H11 l12 (.lst [V.ref q1, V.ref q2, V.ref q3])) ((vs ++ [V.ref t5, V.ref t6]) ++ [V.ref q1, V.ref q2, V.ref q3]) :=
      (pr8.tt (.of s8c)).app (.one (e := (e.1 + 1, e.2)) ((s10.trans (s11.trans s12)) _ _ e9) ((b1.up (m := 1300)).add .one).up b2.up (.one (e := (e.1, e.2 - 1)) ((s11.trans s12) _ _ e10) b1.up ((b2.up (m := 1300)).sub .one).up (.one (e := (e.2, e.1)) (s12 _ _ e11) b2.up b1.up .nil)))
    refine ⟨l, l12, _, [V.ref q1, V.ref q2, V.ref q3], rfl, rfl, g12.at_, upd_same, by simp; omega, ?_⟩
    have g13 := g12.put (ys := (vs ++ [V.ref t5, V.ref t6]) ++ [V.ref q1, V.ref q2, V.ref q3])
    have t13 : TT _ (upd (upd H11 l12 (.lst [V.ref q1, V.ref q2, V.ref q3])) l (.lst ((vs ++ [V.ref t5, V.ref t6]) ++ [V.ref q1, V.ref q2, V.ref q3]))) := g12.ptt
    exact ⟨_, rfl, k l _ _ (k2.trans g13.kd) nld g13.at_ (pr12.tt t13) (by simp [lv])⟩
end
end K11
namespace K11
open PySem L2
open L2.My
open Met
/-- values whose tuples alone matter -/
inductive VT (H : Hp) : V → Prop
  | non : VT H .non
  | int (i : Int) : VT H (.int i)
  | str (z : Str) : VT H (.str z)
  | emp {a : Addr} (e : H a = some (.tup [])) : VT H (.ref a)
  | two {a : Addr} {h : V} {hd : Hd} {i : Int} (e : H a = some (.tup [h, .int i])) (hh : Head h hd) : VT H (.ref a)
  | twoB {a : Addr} {h : V} {hd : Hd} {b : Bool} (e : H a = some (.tup [h, .bl b])) (hh : Head h hd) : VT H (.ref a)
  | twoN {a : Addr} {h : V} {hd : Hd} (e : H a = some (.tup [h, .non])) (hh : Head h hd) : VT H (.ref a)
  | three {a : Addr} {h : V} {hd : Hd} {i j : Int} (e : H a = some (.tup [h, .int i, .int j])) (hh : Head h hd) (bi : B 1500 i) (bj : B 1500 j) : VT H (.ref a)
  | four {a : Addr} {h : V} {hd : Hd} {i j k : Int} (e : H a = some (.tup [h, .int i, .int j, .int k])) (hh : Head h hd) : VT H (.ref a)
theorem VT.tt {H H' : Hp} {x : V} (v : VT H x) (s : TT H H') : VT H' x := by
  cases v with
  | non => exact .non
  | int i => exact .int i
  | str z => exact .str z
  | emp e => exact .emp (s _ _ e)
  | two e hh => exact .two (s _ _ e) hh
  | twoB e hh => exact .twoB (s _ _ e) hh
  | twoN e hh => exact .twoN (s _ _ e) hh
  | three e hh b1 b2 => exact .three (s _ _ e) hh b1 b2
  | four e hh => exact .four (s _ _ e) hh
theorem VT.val {K : PySem.W.Frag} {H : Hp} {x : V} (v : VT H x) : ∃ w, ValAt K H x w := by
  cases v with
  | non => exact ⟨_, .no (.base .non) (by decide)⟩
  | int i => exact ⟨_, .no (.base (.int i)) (by decide)⟩
  | str z => exact ⟨_, .no (.base (.str z)) (by decide)⟩
  | emp e => exact ⟨_, .emp e⟩
  | two e hh => exact ⟨_, .two e hh (.int _)⟩
  | twoB e hh => exact ⟨_, .two e hh (.other (.base (.bl _)) (by decide))⟩
  | twoN e hh => exact ⟨_, .two e hh (.other (.base .non) (by decide))⟩
  | three e hh b1 b2 => exact ⟨_, .three e hh b1 b2⟩
  | four e hh => exact ⟨_, .four e hh⟩
def AV (H : Hp) (xs : List V) : Prop := ∀ x ∈ xs, VT H x
theorem AV.nil {H : Hp} : AV H [] := fun v m => absurd m List.not_mem_nil
theorem AV.tt {H H' : Hp} {xs : List V} (a : AV H xs) (s : TT H H') : AV H' xs := fun x m => (a x m).tt s
theorem AV.app {H : Hp} {xs ys : List V} (p : AV H xs) (q : AV H ys) : AV H (xs ++ ys) := fun v m => by
  rcases List.mem_append.mp m with m | m
  · exact p v m
  · exact q v m
theorem AV.one {H : Hp} {x : V} {xs : List V} (h : VT H x) (r : AV H xs) : AV H (x :: xs) := fun v m => by
  rcases List.mem_cons.mp m with rfl | m
  · exact h
  · exact r v m
theorem ix_at {K : PySem.W.Frag} {X : Cx} (e : X.K = K) : IxR X (rIxT K) := e ▸ ix_tup
structure VI (d l lp : Addr) (ps : List V) (H1 : Hp) (xs : List V) (H : Hp) : Prop where
  g : Gl d l H1 xs H
  pl : H lp = some (.lst ps)
  tt : TT H1 H
  av : AV H xs
  nl : lp ≠ l
  nd : lp ≠ d
theorem VI.kd {d l lp : Addr} {ps : List V} {H1 : Hp} {xs : List V} {H H' : Hp} (v : VI d l lp ps H1 xs H) (k : Kd d H H') : VI d l lp ps H1 xs H' :=
  ⟨v.g.on k, k.but _ _ v.nd v.pl, v.tt.trans (k.tt v.g.kd.dice), v.av.tt (k.tt v.g.kd.dice), v.nl, v.nd⟩
theorem VI.same {d l lp : Addr} {ps : List V} {H1 : Hp} {xs : List V} {H H' : Hp} (v : VI d l lp ps H1 xs H) (s : Same H H') : VI d l lp ps H1 xs H' := v.kd (.of v.g.kd.dice s)
theorem VI.put {d l lp : Addr} {ps : List V} {H1 : Hp} {xs ys : List V} {H : Hp} (v : VI d l lp ps H1 xs H) (a : AV H ys) : VI d l lp ps H1 ys (upd H l (.lst ys)) :=
  ⟨v.g.put, by rw [upd_ne v.nl]; exact v.pl, v.tt.trans v.g.ptt, a.tt v.g.ptt, v.nl, v.nd⟩
theorem len_take_le (xs : List V) (i : Nat) : (xs.take i).length ≤ xs.length := by
  rw [List.length_take]
  exact Nat.min_le_right _ _
section
variable {P : Program} {w : World} {K : PySem.W.Frag} {mg : Str → Option Value} {base : Heap}
def spValues (K : PySem.W.Frag) : Sp := fun vs H Q _ => ∃ a b t d p q pp, vs = [.ref a, .ref b, .ref t, .ref d] ∧ PairAt H a p ∧ PairAt H b q ∧ PSz p q ∧ PPAt H t pp ∧ PB pp ∧ Dice H d ∧
  ∀ l H' xs, Kd d H H' → H' l = some (.lst xs) → (∀ x ∈ xs, ∃ w, ValAt K H' x w) → Q (.ref l) H'
abbrev nValues : List Str := ["_law_place", "_law_other", "_law_paper", "_law_dice_here", "_law_pairs_here", "_law_found", "_law_pair", "_law_shared", "_law_number"]
theorem slValues : FnScope nValues ["_law_place", "_law_other", "_law_paper", "_law_dice_here"] (defScope lValues) := ⟨rfl, rfl, rfl, by decide +kernel, rfl, by decide +kernel, by decide +kernel⟩
theorem lok_values {f fN fP fD : Addr} {fd fdN fdP fdD : FuncData} (F : Fun K "_law_values" "_law_values" lValues f fd) (dN : Dn P w K mg base CX0 "_law_next" ["_law_dice_here", "_law_many"] 1 spNext fN fdN) (dP : Dn P w K mg base CX0 "_law_pairs" ["_law_place", "_law_other", "_law_paper", "_law_dice_here"] 4 spPairs fP fdP)
    (dD : Dn P w K mg base CX0 "_law_divisor" ["_law_one_here", "_law_other"] 1 spLDiv fD fdD) : FnOk P w K mg base CX0 5 f fd ["_law_place", "_law_other", "_law_paper", "_law_dice_here"] (spValues K) := by
  refine F.ok slValues (fun vs H Q E h => ?_) (fun cdv A outer s H vs Q E hr h => ?_)
  · obtain ⟨a, b, t, d, p, q, pp, rfl, _⟩ := h
    rfl
  · obtain ⟨a, b, t, d, p, q, pp, rfl, ep, eq, ps, et, pb, D, k⟩ := h
    have hr1 : Room 1 _ := hr.mono (by decide)
    refine ⟨_, pss_cons (ps_set (i := 4) slValues.nd rfl (.inl rfl) (pe_call dP.G hr rfl dP.g dP.kp dP.b .nil pass0 (pa_cons (pv 0) (pa_cons (pv 1) (pa_cons (pv 2) (pa_cons (pv 3) pa_nil))))))
      (pss_cons (ps_setLc (i := 5) (own := [("_law_pair", 6)]) (g := gName 6) (tt := tYes) (by rfl) slValues.nd rfl rfl (sw_true rfl rfl rfl (by decide +kernel)) (pi_list (pv 4)) (blkOk_by (own := [("_law_pair", 6)]) (N := nValues) (sc := defScope lValues) (by decide +kernel))
        (fun _ _ _ _ _ => pg_name (i := 6) slValues.nd rfl (Or.inl rfl)) (fun _ _ _ _ _ => pts_nil) (fun _ _ _ _ _ => pe_tup (pa_cons pe_str (pa_cons (pe_ix (ix_at (K := K) rfl) (pv 6) pe_int (fun _ _ => rfl)) (pa_cons (pe_ix (ix_at (K := K) rfl) (pv 6) pe_int (fun _ _ => rfl)) pa_nil)))))
      (pss_cons (ps_expr (pe_bm PySem.F.plainAttrs_list PySem.F.slot_list_extend PySem.F.type_list_extend mt_extend (pv 5) (pa_cons (pe_lc (own := [("_law_pair", 6)]) (g := gName 6) (tt := tYes) (by rfl) slValues.nd (pi_list (pv 4)) (blkOk_by (own := [("_law_pair", 6)]) (N := nValues) (sc := defScope lValues) (by decide +kernel))
        (fun _ _ _ _ _ => pg_name (i := 6) slValues.nd rfl (Or.inl rfl)) (fun _ _ _ _ _ => pts_nil) (fun _ _ _ _ _ => pe_tup (pa_cons pe_str (pa_cons (pe_ix (ix_at (K := K) rfl) (pv 6) pe_int (fun _ _ => rfl)) (pa_cons (pe_ix (ix_at (K := K) rfl) (pv 6) pe_int (fun _ _ => rfl)) pa_nil))))) pa_nil)))
      (pss_cons (ps_set (i := 7) slValues.nd rfl (.inl rfl) (pe_call dD.G hr1 rfl dD.g dD.kp dD.b .nil pass0 (pa_cons (pe_ix ix_tup (pv 0) pe_int (fun _ _ => rfl)) (pa_cons (pe_ix ix_tup (pv 1) pe_int (fun _ _ => rfl)) pa_nil))))
      (pss_cons (ps_for PassesOwn.never rfl (pi_tup (pe_tup (pa_cons (pv 7) (pa_cons (pe_op op_mulW pe_int (pv 7)) (pa_cons (pe_op op_sub (pv 7) pe_int) (pa_cons pe_int (pa_cons pe_int (pa_cons (pe_un un_neg (pv 7)) (pa_cons pe_int (pa_cons pe_int (pa_cons (pe_op op_add pe_int (pe_call dN.G hr1 rfl dN.g dN.kp dN.b .nil pass0 (pa_cons (pv 3) (pa_cons pe_int pa_nil)))) pa_nil))))))))))) (pg_name (i := 8) slValues.nd rfl (.inl rfl))
        (pss_one (ps_expr (pe_bm PySem.F.plainAttrs_list PySem.F.slot_list_append PySem.F.type_list_append mt_append (pv 5) (pa_cons (pe_tup (pa_cons pe_str (pa_cons (pv 8) pa_nil))) pa_nil)))))
      (pss_cons (ps_set (i := 6) slValues.nd rfl (.inl rfl) (pe_ix ix_list (pv 4) pe_int (fun _ _ => rfl)))
      (pss_cons (ps_expr (pe_bm PySem.F.plainAttrs_list PySem.F.slot_list_extend PySem.F.type_list_extend mt_extend (pv 5) (pa_cons (pe_lst (pa_cons (pe_tup (pa_cons pe_str (pa_cons (pe_ix ix_tup (pv 6) pe_int (fun _ _ => rfl)) (pa_cons (pe_ix ix_tup (pv 6) pe_int (fun _ _ => rfl)) pa_nil))))
        (pa_cons (pe_tup (pa_cons pe_str (pa_cons (pe_ix ix_tup (pv 6) pe_int (fun _ _ => rfl)) pa_nil))) (pa_cons (pe_tup (pa_cons pe_str (pa_cons (pe_ix ix_tup (pv 6) pe_int (fun _ _ => rfl)) (pa_cons (pe_ix ix_tup (pv 6) pe_int (fun _ _ => rfl)) (pa_cons pe_int pa_nil)))))
        (pa_cons (pe_tup (pa_cons pe_str (pa_cons pe_bl pa_nil))) pa_nil))))) pa_nil)))
      (pss_cons (ps_expr (pe_bm PySem.F.plainAttrs_list PySem.F.slot_list_extend PySem.F.type_list_extend mt_extend (pv 5) (pa_cons (pe_lst (pa_cons (pe_lst (pa_cons pe_str (pa_cons (pe_ix ix_tup (pv 6) pe_int (fun _ _ => rfl)) (pa_cons (pe_ix ix_tup (pv 6) pe_int (fun _ _ => rfl)) pa_nil))))
        (pa_cons (pe_tup pa_nil) (pa_cons pe_non (pa_cons pe_int (pa_cons pe_str (pa_cons (pe_tup (pa_cons pe_str (pa_cons pe_non pa_nil))) (pa_cons (pe_tup (pa_cons pe_int (pa_cons (pe_ix ix_tup (pv 6) pe_int (fun _ _ => rfl)) (pa_cons (pe_ix ix_tup (pv 6) pe_int (fun _ _ => rfl)) pa_nil)))) pa_nil)))))))) pa_nil)))
      (pss_one (ps_ret (pv 5)))))))))), ?_⟩
    have line : (1000 : Nat) < sizeLine := by decide
    refine ⟨_, rfl, _, rfl, _, rfl, _, rfl, a, b, t, d, p, q, pp, rfl, ep, eq, ps, et, pb, D, fun lp H1 pl k1 nld e1 pr l10 => ?_⟩
    have D1 := k1.dice
    have tt1 := k1.tt D
    have ep1 := ep.tt tt1
    have eq1 := eq.tt tt1
    have pick : ∀ {i : Nat} {y : V} {H' : Hp}, pl[i]? = some y → TT H1 H' → ∃ c e, y = .ref c ∧ PairAt H' c e ∧ B 1400 e.1 ∧ B 1400 e.2 := fun {i y H'} hy tt => by
      obtain ⟨c, e, r1, r2, r3⟩ := pr y (List.mem_of_getElem? hy)
      exact ⟨c, e, r1, r2.tt tt, r3⟩
    -- the nearest ones
    refine ⟨_, rfl, lp, rfl, ⟨_, SqL.of e1⟩, fun l nl => lc_list (K := K) (a := lp) (xs := pl) (fun i H' => ∃ vs, Acc H1 l vs H' ∧ vs.length = i ∧ AV H' vs) ⟨[], Acc.start nl, rfl, .nil⟩ (fun i H' _ ⟨_, a, _⟩ => SqL.of (a.1 _ _ e1)) ?_ ?_⟩
    · rintro i y H2 hy ⟨vs, a2, lv, av⟩
      have hi : i < pl.length := (List.getElem?_eq_some_iff.mp hy).1
      obtain ⟨c, e, rfl, ec, b1, b2⟩ := pick hy (.of a2.1)
      refine ⟨rfl, _, rfl, c, _, 0, _, rfl, rfl, SqT.of ec, atI_nat (j := 0) rfl, _, rfl, c, _, 1, _, rfl, rfl, SqT.of ec, atI_nat (j := 1) rfl, n_line, fun t3 n3 => ?_⟩
      have s3 := grow (o := .tup [V.str "nearest", V.int e.1, V.int e.2]) n3
      have a3 := a2.on s3
      refine ⟨_, a3.2.2, by omega, _, a3.put, by simp [lv], ?_⟩
      exact ((av.tt (.of s3)).app (.one (.three upd_same hN b1.up b2.up) .nil)).tt (.put a3.2.2)
    rintro H2 ⟨vs, a2, lv, av⟩
    have nldl : l ≠ d := by
      rintro rfl
      obtain ⟨_, _, _, z, _⟩ := D1
      rw [nl] at z
      cases z
    have nlpl : lp ≠ l := by
      rintro rfl
      rw [nl] at e1
      cases e1
    have v2 : VI d l lp pl H1 vs H2 := ⟨⟨.of D1 a2.1, nl, nldl, a2.2.2⟩, a2.1 _ _ e1, .of a2.1, av, nlpl, nld⟩
    clear a2 av
    show tSeq _ _ _ [some (.ref a), some (.ref b), some (.ref t), some (.ref d), some (.ref lp), some (.ref l), none, none, none] H2
    -- the gaps
    refine ⟨_, rfl, .inl ⟨rfl, _, SqL.of v2.g.at_⟩, _, rfl, lp, rfl, ⟨_, SqL.of v2.pl⟩, fun l3 nl3 => lc_list (K := K) (a := lp) (xs := pl) (fun i H' => ∃ ws, Acc H2 l3 ws H' ∧ ws.length = i ∧ AV H' ws) ⟨[], Acc.start nl3, rfl, .nil⟩ (fun i H' _ ⟨_, a, _⟩ => SqL.of (a.1 _ _ v2.pl)) ?_ ?_⟩
    · rintro i y H3 hy ⟨ws, a3, lv3, av3⟩
      have hi : i < pl.length := (List.getElem?_eq_some_iff.mp hy).1
      obtain ⟨c, e, rfl, ec, b1, b2⟩ := pick hy (v2.tt.trans (.of a3.1))
      refine ⟨rfl, _, rfl, c, _, 0, _, rfl, rfl, SqT.of ec, atI_nat (j := 0) rfl, _, rfl, c, _, 1, _, rfl, rfl, SqT.of ec, atI_nat (j := 1) rfl, n_line, fun t3 n3 => ?_⟩
      have s3 := grow (o := .tup [V.str "gap", V.int e.1, V.int e.2]) n3
      have a4 := a3.on s3
      refine ⟨_, a4.2.2, by omega, _, a4.put, by simp [lv3], ?_⟩
      exact ((av3.tt (.of s3)).app (.one (.three upd_same hG b1.up b2.up) .nil)).tt (.put a4.2.2)
    rintro H3 ⟨ws, a3, lv3, av3⟩
    have v3 := v2.same a3.1
    refine ⟨l, l3, vs, ws, rfl, rfl, v3.g.at_, a3.2.2, by omega, ?_⟩
    have v4 := v3.put (v3.av.app av3)
    revert v4
    generalize upd H3 l (.lst (vs ++ ws)) = H4
    intro v4
    have lz : (vs ++ ws).length = 20 := by
      rw [List.length_append]
      omega
    generalize vs ++ ws = zs at v4 lz
    -- the divisor
    have tt4 := tt1.trans v4.tt
    have ep4 := ep.tt tt4
    have eq4 := eq.tt tt4
    have L := lim403 (ps.h1.up (m := 400)) (ps.h3.up (m := 400))
    have bg : B 403 (divOf p.1 q.1).g := B.lim (divOf_lim p.1 q.1).g L
    refine ⟨_, rfl, a, _, 0, _, rfl, rfl, SqT.of ep4, atI_nat (j := 0) rfl, _, rfl, b, _, 0, _, rfl, rfl, SqT.of eq4, atI_nat (j := 0) rfl, p.1, q.1, rfl, ps.h1, ps.h3, ps.nz, ?_⟩
    generalize (divOf p.1 q.1).g = gg at bg ⊢
    show tSeq _ _ _ [some (.ref a), some (.ref b), some (.ref t), some (.ref d), some (.ref lp), some (.ref l), none, some (.int gg), none] H4
    refine ⟨_, rfl, _, rfl, _, _, rfl, rfl, (B.small (n := 10) (by decide)).ml bg, _, rfl, _, _, rfl, rfl, _, rfl, _, rfl, _, rfl, d, 40, rfl, by decide, by decide, v4.g.kd.dice, fun r H5 r0 r1 D5 u5 => ⟨_, _, rfl, rfl, n_line, fun tp ntp => ?_⟩⟩
    have v5 := v4.kd (.ob D5 u5)
    obtain ⟨H6, z6, s6, e6⟩ := mk_at (o := .tup ([gg, 2 * gg, gg - 1, 1, 0, -gg, 2, 3, 2 + r].map V.int)) ntp
    have z6' : upd H5 tp (.tup [V.int gg, V.int (2 * gg), V.int (gg - 1), V.int 1, V.int 0, V.int (-gg), V.int 2, V.int 3, V.int (2 + r)]) = H6 := z6
    refine ⟨tp, rfl, ⟨_, SqT.of upd_same⟩, ?_⟩
    have v6 := v5.same s6
    have l9 : [gg, 2 * gg, gg - 1, 1, 0, -gg, 2, 3, 2 + r].length = 9 := rfl
    generalize [gg, 2 * gg, gg - 1, 1, 0, -gg, 2, 3, 2 + r] = ns at e6 l9
    -- the moduli
    refine for_tup (K := K) (a := tp) (xs := ns.map V.int) (fun i σ H' => ∃ (xs : List V) (x8 : Option V), σ = [some (.ref a), some (.ref b), some (.ref t), some (.ref d), some (.ref lp), some (.ref l), none, some (.int gg), x8] ∧ VI d l lp pl H1 xs H' ∧ xs.length = 20 + i ∧ TT H6 H')
      ⟨zs, none, rfl, (show VI d l lp pl H1 zs _ from by rw [show upd H5 tp _ = H6 from z6']; exact v6), lz, (by rw [show upd H5 tp _ = H6 from z6']; exact fun _ _ e => e)⟩ (fun i σ H' _ ⟨_, _, _, _, _, tt⟩ => SqT.of (tt _ _ e6)) ?_ ?_
    · rintro i y σ H7 hy ⟨xs, x8, rfl, v7, lx, tt7⟩
      obtain ⟨n, rfl, _⟩ := int_at hy
      have hi : i < 9 := by
        have := (List.getElem?_eq_some_iff.mp hy).1
        rw [List.length_map] at this
        omega
      refine ⟨_, rfl, .inl ⟨rfl, _, SqL.of v7.g.at_⟩, _, rfl, n_line, fun t8 n8 => ?_⟩
      have s8 := grow (o := .tup [V.str "modulus", V.int n]) n8
      have v8 := v7.same s8
      refine ⟨l, _, _, rfl, rfl, v8.g.at_, by omega, ?_⟩
      exact ⟨_, _, rfl, v8.put (v8.av.app (.one (.two upd_same hM) .nil)), by simp [lx]; omega, (tt7.trans (.of s8)).trans v8.g.ptt⟩
    rintro σ H7 ⟨xs, x8, rfl, v7, lx, tt7⟩
    rw [List.length_map, l9] at lx
    -- the third pair
    obtain ⟨y2, hy2⟩ : ∃ y, pl[2]? = some y := ⟨_, List.getElem?_eq_getElem (by omega)⟩
    obtain ⟨c, e, rfl, ec7, b1, b2⟩ := pick hy2 v7.tt
    refine ⟨_, rfl, lp, _, 2, _, rfl, rfl, SqL.of v7.pl, atI_nat (j := 2) hy2, ?_⟩
    show tSeq _ _ _ [some (.ref a), some (.ref b), some (.ref t), some (.ref d), some (.ref lp), some (.ref l), some (.ref c), some (.int gg), x8] H7
    refine ⟨_, rfl, .inl ⟨rfl, _, SqL.of v7.g.at_⟩, ?_⟩
    refine ⟨_, rfl, c, _, 0, _, rfl, rfl, SqT.of ec7, atI_nat (j := 0) rfl, _, rfl, c, _, 1, _, rfl, rfl, SqT.of ec7, atI_nat (j := 1) rfl, n_line, fun q1 m1 => ?_⟩
    obtain ⟨H8, z8, s8, e8⟩ := mk_at (o := .tup [V.str "Nearest", V.int e.1, V.int e.2]) m1
    rw [z8]
    have ec8 := ec7.same s8
    refine ⟨_, rfl, c, _, 0, _, rfl, rfl, SqT.of ec8, atI_nat (j := 0) rfl, n_line, fun q2 m2 => ?_⟩
    obtain ⟨H9, z9, s9, e9⟩ := mk_at (o := .tup [V.str "nearest", V.int e.1]) m2
    rw [z9]
    have ec9 := ec8.same s9
    refine ⟨_, rfl, c, _, 0, _, rfl, rfl, SqT.of ec9, atI_nat (j := 0) rfl, _, rfl, c, _, 1, _, rfl, rfl, SqT.of ec9, atI_nat (j := 1) rfl, n_line, fun q3 m3 => ?_⟩
    obtain ⟨H10, z10, s10, e10⟩ := mk_at (o := .tup [V.str "gap", V.int e.1, V.int e.2, V.int 0]) m3
    rw [z10]
    refine ⟨n_line, fun q4 m4 => ?_⟩
    obtain ⟨H11, z11, s11, e11⟩ := mk_at (o := .tup [V.str "modulus", V.bl true]) m4
    rw [z11]
    refine ⟨n_line, fun l5 n5 => ?_⟩
    have s12 := grow (o := .lst [V.ref q1, V.ref q2, V.ref q3, V.ref q4]) n5
    have s7c := s8.trans (s9.trans (s10.trans (s11.trans s12)))
    have v12 := v7.same s7c
    have av12 : AV (upd H11 l5 (.lst [V.ref q1, V.ref q2, V.ref q3, V.ref q4])) (xs ++ [V.ref q1, V.ref q2, V.ref q3, V.ref q4]) :=
      v12.av.app (.one (.three ((s9.trans (s10.trans (s11.trans s12))) _ _ e8) hO b1.up b2.up) (.one (.two ((s10.trans (s11.trans s12)) _ _ e9) hN) (.one (.four ((s11.trans s12) _ _ e10) hG) (.one (.twoB (s12 _ _ e11) hM) .nil))))
    refine ⟨l, l5, xs, _, rfl, rfl, v12.g.at_, upd_same, by simp; omega, ?_⟩
    have v13 := v12.put av12
    revert v13
    generalize upd (upd H11 l5 (.lst [V.ref q1, V.ref q2, V.ref q3, V.ref q4])) l (.lst (xs ++ [V.ref q1, V.ref q2, V.ref q3, V.ref q4])) = H13
    intro v13
    have ly : (xs ++ [V.ref q1, V.ref q2, V.ref q3, V.ref q4]).length = 33 := by simp [lx]
    generalize xs ++ [V.ref q1, V.ref q2, V.ref q3, V.ref q4] = ys at v13 ly
    obtain ⟨c', e', ec', ec13, b5, b6⟩ := pick hy2 v13.tt
    obtain rfl : c = c' := V.ref.inj ec'
    -- the last ones
    refine ⟨_, rfl, .inl ⟨rfl, _, SqL.of v13.g.at_⟩, ?_⟩
    refine ⟨_, rfl, c, _, 0, _, rfl, rfl, SqT.of ec13, atI_nat (j := 0) rfl, _, rfl, c, _, 1, _, rfl, rfl, SqT.of ec13, atI_nat (j := 1) rfl, n_line, fun r1' w1 => ?_⟩
    obtain ⟨H14, z14, s14, e14⟩ := mk_at (o := .lst [V.str "nearest", V.int e'.1, V.int e'.2]) w1
    rw [z14]
    refine ⟨n_line, fun r2' w2 => ?_⟩
    obtain ⟨H15, z15, s15, e15⟩ := mk_at (o := .tup []) w2
    rw [z15]
    refine ⟨n_line, fun r3' w3 => ?_⟩
    obtain ⟨H16, z16, s16, e16⟩ := mk_at (o := .tup [V.str "modulus", V.non]) w3
    rw [z16]
    have ec16 := ec13.same (s14.trans (s15.trans s16))
    refine ⟨_, rfl, c, _, 0, _, rfl, rfl, SqT.of ec16, atI_nat (j := 0) rfl, _, rfl, c, _, 1, _, rfl, rfl, SqT.of ec16, atI_nat (j := 1) rfl, n_line, fun r4' w4 => ?_⟩
    obtain ⟨H17, z17, s17, e17⟩ := mk_at (o := .tup [V.int 1, V.int e'.1, V.int e'.2]) w4
    rw [z17]
    refine ⟨n_line, fun l6 n6 => ?_⟩
    have s18 := grow (o := .lst [V.ref r1', V.ref r2', .non, .int 7, .str "gap", V.ref r3', V.ref r4']) n6
    have s13c := s14.trans (s15.trans (s16.trans (s17.trans s18)))
    have v18 := v13.same s13c
    refine ⟨l, l6, ys, _, rfl, rfl, v18.g.at_, upd_same, by simp; omega, ?_⟩
    have gf := v18.g.put (ys := ys ++ [V.ref r1', V.ref r2', .non, .int 7, .str "gap", V.ref r3', V.ref r4'])
    have tf : TT _ (upd (upd H17 l6 (.lst [V.ref r1', V.ref r2', .non, .int 7, .str "gap", V.ref r3', V.ref r4'])) l (.lst (ys ++ [V.ref r1', V.ref r2', .non, .int 7, .str "gap", V.ref r3', V.ref r4']))) := v18.g.ptt
    refine ⟨_, rfl, k l _ _ (k1.trans gf.kd) upd_same ?_⟩
    have nrl : r1' ≠ l := by
      rintro rfl
      rw [v13.g.at_] at w1
      cases w1
    intro x mx
    rcases List.mem_append.mp mx with m | m
    · exact ((v18.av x m).tt tf).val
    · rcases List.mem_cons.mp m with rfl | m
      · refine ⟨_, .no (.base (.lst (xs := [V.str "nearest", V.int e'.1, V.int e'.2]) ?_)) (by decide)⟩
        rw [upd_ne nrl]
        exact (s15.trans (s16.trans (s17.trans s18))) _ _ e14
      · have rest : AV (upd H17 l6 (.lst [V.ref r1', V.ref r2', .non, .int 7, .str "gap", V.ref r3', V.ref r4'])) [V.ref r2', .non, .int 7, .str "gap", V.ref r3', V.ref r4'] :=
          .one (.emp ((s16.trans (s17.trans s18)) _ _ e15)) (.one .non (.one (.int 7) (.one (.str _) (.one (.twoN ((s17.trans s18) _ _ e16) hM) (.one (.three (s18 _ _ e17) (hI 1) b5.up b6.up) .nil)))))
        exact ((rest x m).tt tf).val
end
end K11
namespace K11
open PySem L2
open L2.My
open Met
theorem tyx_same {K : PySem.W.Frag} {H H' : Hp} {x : V} {n : String} (s : Same H H') (t : TyX K H x (.type n)) : TyX K H' x (.type n) := by
  cases t with
  | base b =>
    refine .base ?_
    cases b with
    | non => exact .non
    | bl x => exact .bl x
    | int i => exact .int i
    | str x => exact .str x
    | flt x => exact .flt x
    | lst e => exact .lst (s _ _ e)
    | frz e => exact .frz (s _ _ e)
    | tup e => exact .tup (s _ _ e)
    | dK e => exact .dK (s _ _ e)
    | dT e => exact .dT (s _ _ e)
  | byt b => exact .byt b
  | set e => exact .set (s _ _ e)
  | kList e c => exact .kList e c
  | kTuple e c => exact .kTuple e c
  | kDict e c => exact .kDict e c
  | fTuple e => exact .fTuple (s _ _ e)
  | fDict e => exact .fDict (s _ _ e)
theorem ValAt.same {K : PySem.W.Frag} {H H' : Hp} {x : V} {w : PV} (v : ValAt K H x w) (s : Same H H') : ValAt K H' x w := by
  cases v with
  | no t m => exact .no (tyx_same s t) m
  | emp e => exact .emp (s _ _ e)
  | two e hh it => exact .two (s _ _ e) hh (it.same s)
  | three e hh b1 b2 => exact .three (s _ _ e) hh b1 b2
  | four e hh => exact .four (s _ _ e) hh
theorem paper_val {K : PySem.W.Frag} {H : Hp} {t : Addr} {pp : PP} (e : PPAt H t pp) (b : PB pp) : ValAt K H (.ref t) pp.value := by
  cases pp with
  | modulus g => exact .two e hM (.int g)
  | near z => exact .three e hN b.1.up b.2.up
  | gap z => exact .three e hG b.1.up b.2.up
def ppData : PP → PyData
  | .modulus g => .tuple [.str "modulus", .int g]
  | .near e => .tuple [.str "nearest", .int e.1, .int e.2]
  | .gap e => .tuple [.str "gap", .int e.1, .int e.2]
theorem paper_data {K : PySem.W.Frag} {H : Hp} {t : Addr} {pp : PP} (e : PPAt H t pp) : Dp K H (.ref t) (ppData pp) := by
  cases pp with
  | modulus g => exact .tup (SqT.of e) (.cons (.str _) (.cons (.int _) .nil))
  | near z => exact .tup (SqT.of e) (.cons (.str _) (.cons (.int _) (.cons (.int _) .nil)))
  | gap z => exact .tup (SqT.of e) (.cons (.str _) (.cons (.int _) (.cons (.int _) .nil)))
theorem paper_shaped (pp : PP) : SeqAt.shaped (ppData pp) = true := by
  cases pp <;> simp [ppData, SeqAt.shaped, PyData.canLay0, PyData.depth, PyData.canLayAll0, PyData.depthAll] <;> decide +kernel
theorem paper_eqv (pp : PP) : PyData.eqv (ppData pp) (ppData pp) = true := by
  cases pp <;> simp [ppData, PyData.eqv, PyData.eqvAll]
section
variable {P : Program} {w : World} {K : PySem.W.Frag} {mg : Str → Option Value} {base : Heap}
/-! ### _law_cells -/
def AllI (xs : List V) : Prop := ∀ x ∈ xs, ∃ n : Int, x = .int n
def spCells (K : PySem.W.Frag) : Sp := fun vs H Q _ => ∃ (a : Addr) (ns : List Int), vs = [.ref a, .int 12] ∧ SqL K H a (ns.map V.int) ∧ ns.length ≤ 63 ∧
  ∀ p H' xs, Same H H' → H' p = some (.lst xs) → AllI xs → Q (.ref p) H'
theorem scCells : FnScope ["_law_script", "_law_most"] ["_law_script", "_law_most"] (defScope tCells) := ⟨rfl, rfl, rfl, by decide +kernel, rfl, by decide +kernel, by decide +kernel⟩
theorem ok_cells {f : Addr} {fd : FuncData} (F : Fun K "_law_cells" "_law_cells" tCells f fd) (T : Bl mg) : FnOk P w K mg base CX0 1 f fd ["_law_script", "_law_most"] (spCells K) := by
  refine F.ok scCells (fun vs H Q E h => ?_) (fun cdv A outer s H vs Q E hr h => ?_)
  · obtain ⟨a, ns, rfl, _⟩ := h
    rfl
  · obtain ⟨a, ns, rfl, hS, hl, k⟩ := h
    refine ⟨_, pss_one (ps_ret (pe_ifExp (pt_cmpR op_gt (pe_callB call_len_seq (by rfl) T.len PySem.boot_len (pa_cons (pv 0) pa_nil)) pe_int (nomark _))
      (pe_callTy call_list_of (by rfl) T.list (by decide +kernel) (pa_cons (pe_slice sl_list (pv 0) po_none (po_some (pv 1))) pa_nil))
      (pe_lst (pa_cons pe_int pa_nil)))), ?_⟩
    refine ⟨_, rfl, a, _, rfl, .inl hS, _, _, rfl, rfl, _, rfl, ite2 (fun _ => ?_) (fun _ => ?_)⟩
    · refine ⟨_, rfl, _, rfl, _, rfl, a, _, rfl, hS, fun p np => ⟨p, _, rfl, .inl (SqL.of upd_same), fun l nl => k l _ _ ((grow np).trans (grow nl)) upd_same ?_⟩⟩
      intro x hx
      obtain ⟨n, _, rfl⟩ := List.mem_map.mp (List.mem_of_mem_drop (List.mem_of_mem_take hx))
      exact ⟨n, rfl⟩
    · refine ⟨(by show 1 ≤ sizeLine; decide), fun l nl => k l _ _ (grow nl) upd_same ?_⟩
      intro x hx
      rw [List.mem_singleton] at hx
      exact ⟨_, hx⟩
/-! ### _law_is_refused -/
def spRefused (K : PySem.W.Frag) (C : Addr) : Sp := fun vs H Q _ => ∃ x y t, vs = [x, y] ∧ TyX K H x t ∧ PySem.W.kitOne K t (.ref C) = some false ∧ Q (.bl true) H
theorem slRefused : FnScope ["_law_value", "_law_paper"] ["_law_value", "_law_paper"] (defScope lRefused) := ⟨rfl, rfl, rfl, by decide +kernel, rfl, by decide +kernel, by decide +kernel⟩
theorem lok_refused {f fP C CA : Addr} {fd fdP : FuncData} (F : Fun K "_law_is_refused" "_law_is_refused" lRefused f fd) (I : ITxt K mg C CA)
    (dP : Dn P w K mg base (L2.CX P w) "is_meetings_paper" ["meetings", "value"] 4 (spPaper K C CA) fP fdP) : FnOk P w K mg base CX0 5 f fd ["_law_value", "_law_paper"] (spRefused K C) := by
  refine F.ok slRefused (fun vs H Q E h => ?_) (fun cdv A outer s H vs Q E hr h => ?_)
  · obtain ⟨x, y, t, rfl, _⟩ := h
    rfl
  · obtain ⟨x, y, t, rfl, ty, kt, k⟩ := h
    refine ⟨_, pss_cons (ps_try_only (tb := fun W => tDrop (tCallS (spPaper K C CA) (WE W) (tCons (tVar 0) (tCons (tVar 1) tNil)))) rfl rfl ⟨rfl, by decide, .inl I.gA⟩ takes0
        (fun W pn xe tk _ => pss_one (ps_expr (pe_callS dP.G hr rfl dP.g dP.kp dP.b (fun σ => passAt tk σ) (pa_cons (pv 0) (pa_cons (pv 1) pa_nil))))) (fun a oe cls d pn _ _ => pss_one (ps_ret pe_bl)))
      (pss_one (ps_ret pe_bl)), ?_⟩
    refine ⟨_, rfl, _, rfl, x, y, rfl, .inr ⟨t, ty, kt, true, I.eAA, fun _ a ha => k, fun q => nomatch q⟩⟩
/-! ### _law_one -/
def spOne : Sp := fun vs H Q _ => ∃ n : Int, vs = [.int n] ∧ ∀ H', Same H H' → Q (.bl true) H'
abbrev nOne : List Str := ["_law_cell", "_law_dice_here", "_law_place", "_law_other", "_law_bounds_here", "_law_met", "_law_paper", "_law_value"]
theorem slOne : FnScope nOne ["_law_cell"] (defScope lOne) := ⟨rfl, rfl, rfl, by decide +kernel, rfl, by decide +kernel, by decide +kernel⟩
theorem PS64.sz {p q : Pr} (h : PS64 p q) : PSz p q := ⟨h.h1.up, h.h2.up, h.h3.up, h.h4.up, h.nz⟩
theorem kd_same {d : Addr} {H H1 : Hp} (n : H d = none) (k : But d H H1) : Same H H1 := fun b o e => by
  have hb : b ≠ d := by
    rintro rfl
    rw [n] at e
    cases e
  rw [k b hb]
  exact e
theorem kd_on {d : Addr} {H H1 H2 : Hp} (n : H d = none) (s : Same H H1) (k : Kd d H1 H2) : Same H H2 := fun b o e => by
  have hb : b ≠ d := by
    rintro rfl
    rw [n] at e
    cases e
  exact k.but _ _ hb (s _ _ e)
theorem lok_one {f fD fPl fB fM fJ fP fT fV aQ gQ gB C CA : Addr} {fd fdD fdPl fdB fdM fdJ fdP fdT fdV fdQ fdBo : FuncData} (F : Fun K "_law_one" "_law_one" lOne f fd) (X : Txt K mg) (T : CTxt K C) (I : ITxt K mg C CA)
    (dD : Dn P w K mg base CX0 "_law_dice" ["_law_cell"] 1 spDice fD fdD) (dPl : Dn P w K mg base CX0 "_law_places" ["_law_dice_here"] 5 spPlaces fPl fdPl) (dB : Dn P w K mg base CX0 "_law_bounds" ["_law_dice_here", "_law_most"] 2 spBounds fB fdB)
    (dM : Dn P w K mg base CX0 "_law_made" ["_law_place", "_law_other", "_law_bounds_here"] 7 (spMade C) fM fdM) (dJ : Dn P w K mg base CX0 "_law_is_paper" ["_law_place", "_law_other", "_law_bounds_here", "_law_value"] 5 (spLPaper K) fJ fdJ)
    (dP : Dn P w K mg base (L2.CX P w) "is_meetings_paper" ["meetings", "value"] 4 (spPaper K C CA) fP fdP) (dT : Dn P w K mg base CX0 "_law_is_truth" ["_law_value", "_law_due"] 1 spTruth fT fdT)
    (dV : Dn P w K mg base CX0 "_law_values" ["_law_place", "_law_other", "_law_paper", "_law_dice_here"] 5 (spValues K) fV fdV) (rQ : Pn P w K mg base C "paper" (spGQ C) aQ gQ fdQ)
    (GB : FnOk P w K mg base CX0 1 gB fdBo ["self"] (spGT C)) (bB : Binds K fdBo ["self"] []) (hs : PySem.W.findIn K (.ref C) "__bool__" = some (some (.ref gB))) (hf : PySem.W.isFn K (.ref gB) = true) : FnOk P w K mg base CX0 8 f fd ["_law_cell"] spOne := by
  refine F.ok slOne (fun vs H Q E h => ?_) (fun cdv A outer s H vs Q E hr h => ?_)
  · obtain ⟨n, rfl, _⟩ := h
    rfl
  · obtain ⟨n, rfl, k⟩ := h
    have hr1 : Room 1 _ := hr.mono (by decide)
    have hr2 : Room 2 _ := hr.mono (by decide)
    have hr3 : Room 3 _ := hr.mono (by decide)
    have hr4 : Room 4 _ := hr.mono (by decide)
    have hr5 : Room 5 _ := hr.mono (by decide)
    refine ⟨_, pss_cons (ps_set (i := 1) slOne.nd rfl (.inl rfl) (pe_call dD.G hr1 rfl dD.g dD.kp dD.b .nil pass0 (pa_cons (pv 0) pa_nil)))
      (pss_cons (ps_asg (pe_call dPl.G hr5 rfl dPl.g dPl.kp dPl.b .nil pass0 (pa_cons (pv 1) pa_nil)) (pg_tup rfl (pgs_cons (pg_name (i := 2) slOne.nd rfl (.inl rfl)) (pgs_cons (pg_name (i := 3) slOne.nd rfl (.inl rfl)) pgs_nil))))
      (pss_cons (ps_set (i := 4) slOne.nd rfl (.inl rfl) (pe_call dB.G hr2 rfl dB.g dB.kp dB.b .nil pass0 (pa_cons (pv 1) (pa_cons pe_int pa_nil))))
      (pss_cons (ps_set (i := 5) slOne.nd rfl (.inl rfl) (pe_call dM.G hr rfl dM.g dM.kp dM.b .nil pass0 (pa_cons (pv 2) (pa_cons (pv 3) (pa_cons (pv 4) pa_nil)))))
      (pss_cons (ps_set (i := 6) slOne.nd rfl (.inl rfl) (pe_prop (pv 5) T.cl rQ.h rQ.G hr2 rQ.b .nil pass0 rfl))
      (pss_cons (ps_if (PW.pt (pw_or (pt_not (pt_val (pe_call dJ.G hr5 rfl dJ.g dJ.kp dJ.b .nil pass0 (pa_cons (pv 2) (pa_cons (pv 3) (pa_cons (pv 4) (pa_cons (pv 6) pa_nil)))))))
          (pw_or1 (pt_cmpR op_isnot_bl (pe_call dP.G hr4 rfl dP.g dP.kp dP.b .nil passL (pa_cons (pv 5) (pa_cons (pv 6) pa_nil))) pe_bl (nomark _))))) (pss_one (ps_ret pe_bl)) pss_nil)
      (pss_cons (ps_if (pt_not (pt_val (pe_call dT.G hr1 rfl dT.g dT.kp dT.b .nil pass0 (pa_cons (pe_callTy (call_boolOwn hs hf GB bB rfl hr3 pass0) (by rfl) X.bool (by decide +kernel) (pa_cons (pv 5) pa_nil))
          (pa_cons (pe_cmpR op_eq (pe_ix ix_tup (pv 6) pe_int (fun _ _ => rfl)) pe_str (nomark _)) pa_nil))))) (pss_one (ps_ret pe_bl)) pss_nil)
      (pss_cons (ps_for PassesOwn.never rfl (pi_list (pe_call dV.G hr5 rfl dV.g dV.kp dV.b .nil pass0 (pa_cons (pv 2) (pa_cons (pv 3) (pa_cons (pv 6) (pa_cons (pv 1) pa_nil)))))) (pg_name (i := 7) slOne.nd rfl (.inl rfl))
        (pss_one (ps_if (pt_not (pt_val (pe_call dT.G hr1 rfl dT.g dT.kp dT.b .nil pass0 (pa_cons (pe_call dP.G hr4 rfl dP.g dP.kp dP.b .nil passL (pa_cons (pv 5) (pa_cons (pv 7) pa_nil)))
          (pa_cons (pe_call dJ.G hr5 rfl dJ.g dJ.kp dJ.b .nil pass0 (pa_cons (pv 2) (pa_cons (pv 3) (pa_cons (pv 4) (pa_cons (pv 7) pa_nil))))) pa_nil))))) (pss_one (ps_ret pe_bl)) pss_nil)))
      (pss_one (ps_ret (pe_and (pe_cmpR (op_eqD hr.units) (pe_prop (pv 5) T.cl rQ.h rQ.G hr2 rQ.b .nil pass0 rfl) (pv 6) (nomark _))
        (pe_one (pe_cmpR op_is_bl (pe_call dP.G hr4 rfl dP.g dP.kp dP.b .nil passL (pa_cons (pe_call dM.G hr rfl dM.g dM.kp dM.b .nil pass0 (pa_cons (pv 2) (pa_cons (pv 3) (pa_cons (pv 4) pa_nil)))) (pa_cons (pv 6) pa_nil))) pe_bl (nomark _))))))))))))), ?_⟩
    -- the draws
    refine ⟨_, rfl, n, rfl, fun d H1 nd D1 u1 => ?_⟩
    have s1 := kd_same nd u1
    refine ⟨_, rfl, d, rfl, D1, fun t H2 pa qa p q k2 et ep eq z64 => ?_⟩
    have ps := z64.sz
    refine ⟨t, _, rfl, SqT.of et, rfl, _, _, rfl, _, _, rfl, rfl, ?_⟩
    refine ⟨_, rfl, d, rfl, k2.dice, fun ba H3 b k3 eb bo => ?_⟩
    have t3 := k3.tt k2.dice
    refine ⟨_, rfl, _, rfl, _, rfl, pa, qa, ba, p, q, b, rfl, ep.tt t3, eq.tt t3, eb, ps, bo, fun x H4 s4 met => ?_⟩
    have ep4 := (ep.tt t3).same s4
    have eq4 := (eq.tt t3).same s4
    have eb4 := eb.same s4
    have D4 : Dice H4 d := Dice.same k3.dice s4
    have s04 : Same H H4 := fun y o e => s4 _ _ (kd_on nd (kd_on nd s1 k2) k3 _ _ e)
    clear t3 k3 k2 et ep eq eb
    obtain ⟨dx, ta, bx, vl, vn, vs, vt, vr, tp, ex, o'⟩ := id met
    refine ⟨_, rfl, x, dx, _, rfl, ex, x, p, q, b, rfl, met, fun tq eq4' => ?_⟩
    have pb := paper_sz (b := b) ps bo
    have jd := paper_ok p q b ps.nz
    have tr := paper_truth p q b ps.nz
    generalize hpp : paperOf p q b = pp at eq4' pb jd tr
    -- the paper is judged
    refine ⟨_, rfl, _, rfl, _, rfl, _, rfl, pa, qa, ba, _, p, q, b, pp.value, rfl, ep4, eq4, eb4, paper_val eq4' pb, ps, fun H5 s5 => ?_⟩
    rw [jd]
    refine ⟨_, rfl, iteF ?_⟩
    refine ⟨_, rfl, _, rfl, _, _, rfl, .inl ⟨x, p, q, b, pp.value, rfl, met.same s5, ps, bo, paper_val (eq4'.same s5) pb, fun H6 s6 => ?_⟩⟩
    rw [jd]
    refine ⟨_, _, rfl, rfl, _, rfl, iteF ?_⟩
    have s46 := s5.trans s6
    have m6 := met.same s46
    have e6 := eq4'.same s46
    -- the truth
    refine ⟨_, rfl, x, dx, _, rfl, s46 _ _ ex, x, p, q, b, rfl, m6, _, rfl, ?_⟩
    have head : ∃ z xs, H6 tq = some (.tup (.str z :: xs)) ∧ decide (V.str z = .str "nearest") = pp.isNear := by
      cases pp with
      | modulus g => exact ⟨_, _, e6, (by decide +kernel : decide ((V.str "modulus") = V.str "nearest") = false)⟩
      | near e => exact ⟨_, _, e6, (by decide +kernel : decide ((V.str "nearest") = V.str "nearest") = true)⟩
      | gap e => exact ⟨_, _, e6, (by decide +kernel : decide ((V.str "gap") = V.str "nearest") = false)⟩
    obtain ⟨z, xs, ez, hz⟩ := head
    refine ⟨_, rfl, tq, _, 0, _, rfl, rfl, SqT.of ez, atI_nat (j := 0) rfl, rfl, _, _, rfl, ?_⟩
    rw [hz, tr]
    refine ⟨_, rfl, ?_⟩
    rw [show (pp.isNear == pp.isNear) = true from beq_self_eq_true _]
    refine iteF ?_
    -- the values
    refine ⟨_, rfl, _, rfl, _, rfl, _, rfl, pa, qa, tq, d, p, q, pp, rfl, ep4.same s46, eq4.same s46, ps, e6, pb, Dice.same D4 s46, fun l H7 ys k7 el av => ?_⟩
    have D6 := Dice.same D4 s46
    have t7 := k7.tt D6
    have ep7 := (ep4.same s46).tt t7
    have eq7 := (eq4.same s46).tt t7
    have eb7 := (eb4.same s46).tt t7
    have e7 := e6.tt t7
    have m7 := m6.kd k7 D6
    have s07 : Same H H7 := kd_on nd (s04.trans s46) k7
    clear ep4 eq4 eb4 D4 D6 t7 k7 s46 s5 s6 ez
    refine ⟨l, rfl, ⟨_, SqL.of el⟩, for_list (K := K) (a := l) (xs := ys) (fun j σ H' => ∃ v : Option V, σ = [some (.int n), some (.ref d), some (.ref pa), some (.ref qa), some (.ref ba), some (.ref x), some (.ref tq), v] ∧ Same H7 H')
      ⟨_, rfl, Same.refl _⟩ (fun j σ H' _ ⟨_, _, s⟩ => s.seq (SqL.of el)) ?_ ?_⟩
    · rintro j y σ H8 hj ⟨v, rfl, s8⟩
      obtain ⟨pv', va⟩ := av y (List.mem_of_getElem? hj)
      refine ⟨_, rfl, _, rfl, _, _, rfl, .inl ⟨x, p, q, b, pv', rfl, m7.same s8, ps, bo, va.same s8, fun H9 s9 => ?_⟩⟩
      have s79 := s8.trans s9
      refine ⟨_, rfl, _, rfl, _, rfl, _, rfl, pa, qa, ba, _, p, q, b, pv', rfl, ep7.same s79, eq7.same s79, eb7.same s79, va.same s79, ps, fun H10 s10 => ?_⟩
      refine ⟨_, _, rfl, _, rfl, ?_⟩
      rw [show ((judge p q b pv') == (judge p q b pv')) = true from beq_self_eq_true _]
      exact iteF ⟨_, rfl, s79.trans s10⟩
    · rintro σ H8 ⟨v, rfl, s8⟩
      have m8 := m7.same s8
      have e8 := e7.same s8
      obtain ⟨dx8, ta8, bx8, vl8, vn8, vs8, vt8, vr8, tp8, ex8, o8⟩ := id m8
      refine ⟨_, rfl, x, dx8, _, rfl, ex8, x, p, q, b, rfl, m8, fun t2 e2 => ?_⟩
      rw [hpp] at e2
      refine ⟨_, rfl, _, _, paper_data e2, paper_data e8, paper_shaped _, paper_shaped _, _, rfl, ?_⟩
      rw [paper_eqv]
      refine iteT ?_
      refine ⟨_, rfl, _, rfl, _, rfl, pa, qa, ba, p, q, b, rfl, ep7.same s8, eq7.same s8, eb7.same s8, ps, bo, fun x2 H9 s9 met2 => ?_⟩
      refine ⟨_, rfl, _, _, rfl, .inl ⟨x2, p, q, b, pp.value, rfl, met2, ps, bo, paper_val (e8.same s9) pb, fun H10 s10 => ?_⟩⟩
      rw [jd]
      exact ⟨_, _, rfl, rfl, k _ (s07.trans (s8.trans (s9.trans s10)))⟩
/-! ### law -/
def spLaw (K : PySem.W.Frag) : Sp := fun vs H Q _ => ∃ (a : Addr) (ns : List Int), vs = [.ref a] ∧ SqL K H a (ns.map V.int) ∧ ns.length ≤ 63 ∧ ∀ H', Q (.bl true) H'
theorem scLaw : FnScope ["_law_script", "_law_cell", "_law_value"] ["_law_script"] (defScope tLaw) := ⟨rfl, rfl, rfl, by decide +kernel, rfl, by decide +kernel, by decide +kernel⟩
theorem ok_law {f fS fO fR C CA : Addr} {fd fdS fdO fdR : FuncData} (F : Fun K "law" "law" tLaw f fd) (I : ITxt K mg C CA) (dS : Dn P w K mg base CX0 "_law_cells" ["_law_script", "_law_most"] 1 (spCells K) fS fdS) (dO : Dn P w K mg base CX0 "_law_one" ["_law_cell"] 8 spOne fO fdO)
    (dR : Dn P w K mg base CX0 "_law_is_refused" ["_law_value", "_law_paper"] 5 (spRefused K C) fR fdR) : FnOk P w K mg base CX0 9 f fd ["_law_script"] (spLaw K) := by
  refine F.ok scLaw (fun vs H Q E h => ?_) (fun cdv A outer s H vs Q E hr h => ?_)
  · obtain ⟨a, ns, rfl, _⟩ := h
    rfl
  · obtain ⟨a, ns, rfl, hS, hl, k⟩ := h
    have hr5 : Room 5 _ := hr.mono (by decide)
    have hr1 : Room 1 _ := hr.mono (by decide)
    refine ⟨_, pss_cons (ps_for PassesOwn.never rfl (pi_list (pe_call dS.G hr1 rfl dS.g dS.kp dS.b .nil pass0 (pa_cons (pv 0) (pa_cons pe_int pa_nil)))) (pg_name (i := 1) scLaw.nd rfl (.inl rfl))
        (pss_one (ps_if (pt_not (pt_val (pe_call dO.G hr rfl dO.g dO.kp dO.b .nil pass0 (pa_cons (pv 1) pa_nil)))) (pss_one (ps_ret pe_bl)) pss_nil)))
      (pss_cons (ps_for PassesOwn.never rfl (pi_tup (pe_tup (pa_cons pe_non (pa_cons pe_int (pa_cons (pe_tup (pa_cons pe_int (pa_cons pe_int pa_nil))) (pa_cons pe_str (pa_cons (pe_lst (pa_cons (pe_tup (pa_cons pe_int (pa_cons pe_int pa_nil))) (pa_cons (pe_tup (pa_cons pe_int (pa_cons pe_int pa_nil))) pa_nil))) pa_nil))))))) (pg_name (i := 2) scLaw.nd rfl (.inl rfl))
        (pss_one (ps_if (pt_not (pt_val (pe_call dR.G hr5 rfl dR.g dR.kp dR.b .nil pass0 (pa_cons (pv 2) (pa_cons (pe_tup (pa_cons pe_str (pa_cons pe_int pa_nil))) pa_nil))))) (pss_one (ps_ret pe_bl)) pss_nil)))
      (pss_one (ps_ret pe_bl))), ?_⟩
    refine ⟨_, rfl, a, ns, rfl, hS, hl, fun l H1 xs s1 el ix => ?_⟩
    refine ⟨l, rfl, ⟨_, SqL.of el⟩, for_list (K := K) (a := l) (xs := xs) (fun j σ H' => ∃ v : Option V, σ = [some (.ref a), v, none] ∧ Same H1 H')
      ⟨_, rfl, Same.refl _⟩ (fun j σ H' _ ⟨_, _, s7⟩ => s7.seq (SqL.of el)) ?_ ?_⟩
    · rintro j y σ H2 hj ⟨v, rfl, s2⟩
      obtain ⟨n, rfl⟩ := ix y (List.mem_of_getElem? hj)
      exact ⟨_, rfl, n, rfl, fun H3 s3 => ⟨_, rfl, iteF ⟨_, rfl, s2.trans s3⟩⟩⟩
    · rintro σ H2 ⟨v, rfl, s2⟩
      refine ⟨n_line, fun p1 n1 => ?_⟩
      obtain ⟨H3, z3, s3, e3⟩ := mk_at (o := .tup [V.int 1, V.int 2]) n1
      rw [z3]
      refine ⟨n_line, fun p2 n2 => ?_⟩
      obtain ⟨H4, z4, s4, e4⟩ := mk_at (o := .tup [V.int 0, V.int 1]) n2
      rw [z4]
      refine ⟨n_line, fun p3 n3 => ?_⟩
      obtain ⟨H5, z5, s5, e5⟩ := mk_at (o := .tup [V.int 1, V.int 0]) n3
      rw [z5]
      refine ⟨n_line, fun p4 n4 => ?_⟩
      obtain ⟨H6, z6, s6, e6⟩ := mk_at (o := .lst [V.ref p2, V.ref p3]) n4
      rw [z6]
      refine ⟨n_line, fun p5 n5 => ?_⟩
      obtain ⟨H7, z7, s7, e7⟩ := mk_at (o := .tup [V.non, V.int 5, V.ref p1, V.str "met", V.ref p4]) n5
      refine ⟨p5, rfl, ⟨_, SqT.of upd_same⟩, ?_⟩
      have e1 : H7 p1 = some (.tup [V.int 1, V.int 2]) := s7 _ _ (s6 _ _ (s5 _ _ (s4 _ _ e3)))
      have e4' : H7 p4 = some (.lst [V.ref p2, V.ref p3]) := s7 _ _ e6
      have bad : ∀ y ∈ [V.non, V.int 5, V.ref p1, V.str "met", V.ref p4], ∃ n : String, TyX K H7 y (.type n) ∧ PySem.W.kitOne K (.type n) (.ref C) = some false := by
        intro y hy
        simp only [List.mem_cons, List.not_mem_nil, or_false] at hy
        rcases hy with rfl | rfl | rfl | rfl | rfl
        · exact ⟨_, .base .non, I.kN⟩
        · exact ⟨_, .base (.int 5), I.kI⟩
        · exact ⟨_, .base (.tup e1), I.kT⟩
        · exact ⟨_, .base (.str _), I.kS⟩
        · exact ⟨_, .base (.lst e4'), I.kL⟩
      generalize [V.non, V.int 5, V.ref p1, V.str "met", V.ref p4] = ys at e7 bad z7
      refine for_tup (K := K) (a := p5) (xs := ys) (fun j σ H' => ∃ v2 : Option V, σ = [some (.ref a), v, v2] ∧ Same H7 H') ⟨_, rfl, (by rw [z7]; exact Same.refl _)⟩ (fun j σ H' _ ⟨_, _, s9⟩ => SqT.of (s9 _ _ e7)) ?_ ?_
      · rintro j y σ H8 hj ⟨v2, rfl, s8⟩
        obtain ⟨n, ty, kt⟩ := bad y (List.mem_of_getElem? hj)
        refine ⟨_, rfl, n_line, fun p6 n6 => ?_⟩
        have s9 := grow (o := HO.tup [V.str "modulus", V.int 2]) n6
        exact ⟨_, _, _, rfl, tyx_same (s8.trans s9) ty, kt, _, rfl, iteF ⟨_, rfl, s8.trans s9⟩⟩
      · rintro σ H8 ⟨v2, rfl, s8⟩
        exact k _
end
end K11
namespace K11
open PySem L2
open L2.My
open Met
structure AtTop (K : PySem.W.Frag) (x : Str) (st : Stmt) (f : Addr) (fd : FuncData) : Prop where
  ns : PySem.W.nsIn K mainGlobals x = some (some (.ref f))
  fn : Fun K x x st f fd
theorem atTop {K : PySem.W.Frag} {x : Str} {st : Stmt} {f : Addr} {oc : Value} {od an : Option Addr} {sl : Array (Option Value)} {kV dc pm cd ct : Value} (a : PySem.W.nsIn K mainGlobals x = some (some (.ref f)))
    (l : K.lookup f = some ⟨oc, od, .func (PySem.W.fnOf x x (defArgs st) (defBody st) (defScope st) .none kV dc pm an cd ct), sl⟩) (c : PySem.W.codeIn K cd x = true) (k : PySem.W.keepIn K (.ref f) = true) :
    AtTop K x st f (PySem.W.fnOf x x (defArgs st) (defBody st) (defScope st) .none kV dc pm an cd ct) := ⟨a, fun_mk (st := st) l c k⟩
/-- a method's def, and a property's -/
theorem atM {K : PySem.W.Frag} {x q : Str} {st : Stmt} {f : Addr} {oc : Value} {od an : Option Addr} {sl : Array (Option Value)} {kV dc pm cd ct : Value}
    (l : K.lookup f = some ⟨oc, od, .func (PySem.W.fnOf x q (defArgs st) (defBody st) (defScope st) .none kV dc pm an cd ct), sl⟩) (c : PySem.W.codeIn K cd q = true) (k : PySem.W.keepIn K (.ref f) = true) :
    Fun K x q st f (PySem.W.fnOf x q (defArgs st) (defBody st) (defScope st) .none kV dc pm an cd ct) := fun_mk (st := st) l c k
structure AtP (K : PySem.W.Frag) (C : Addr) (x q : Str) (st : Stmt) (p g : Addr) (fd : FuncData) : Prop where
  pr : PropOf K C x p g
  fn : Fun K x q st g fd
theorem atP {K : PySem.W.Frag} {C p g : Addr} {x q : Str} {st : Stmt} {oc : Value} {od an : Option Addr} {sl : Array (Option Value)} {kV dc pm cd ct : Value} {rest : List Value} (a : PySem.W.findIn K (.ref C) x = some (some (.ref p)))
    (b : PySem.W.specialIn K (.ref p) "__get__" = some (some (.builtin "property.__get__"))) (t : PySem.W.takesIn K (.ref p) = some true) (r : PySem.W.recIn K p "property" = some (.ref g :: rest))
    (l : K.lookup g = some ⟨oc, od, .func (PySem.W.fnOf x q (defArgs st) (defBody st) (defScope st) .none kV dc pm an cd ct), sl⟩) (c : PySem.W.codeIn K cd q = true) (k : PySem.W.keepIn K (.ref g) = true) :
    AtP K C x q st p g (PySem.W.fnOf x q (defArgs st) (defBody st) (defScope st) .none kV dc pm an cd ct) := ⟨⟨a, b, t, rest, r⟩, fun_mk (st := st) l c k⟩
/-- __init__ with its keyword-only defaults -/
theorem atI {K : PySem.W.Frag} {f D : Addr} {oc : Value} {od an : Option Addr} {sl : Array (Option Value)} {dc pm cd ct : Value} {t0 t1 : Tok}
    (l : K.lookup f = some ⟨oc, od, .func (PySem.W.fnOf "__init__" "Meetings.__init__" (defArgs mInit) (defBody mInit) (defScope mInit) .none (.ref D) dc pm an cd ct), sl⟩) (c : PySem.W.codeIn K cd "Meetings.__init__" = true) (k : PySem.W.keepIn K (.ref f) = true)
    (k0 : PySem.W.nsIn K D "low" = some (some (.int 0 t0))) (k1 : PySem.W.nsIn K D "high" = some (some .none)) (k2 : PySem.W.nsIn K D "first" = some (some (.int 0 t1))) (k3 : PySem.W.nsIn K D "rounds" = some (some .none)) :
    FunD K "__init__" "Meetings.__init__" (defArgs mInit) (defBody mInit) (defScope mInit) [] kwsI f (PySem.W.fnOf "__init__" "Meetings.__init__" (defArgs mInit) (defBody mInit) (defScope mInit) .none (.ref D) dc pm an cd ct) := by
  refine ⟨⟨oc, od, .none, .ref D, dc, pm, an, cd, ct, sl, rfl, l, c, .inl ⟨rfl, rfl⟩, .inr ⟨D, rfl, fun q hq => ?_⟩⟩, k⟩
  simp only [List.mem_cons, List.not_mem_nil, or_false] at hq
  rcases hq with rfl | rfl | rfl | rfl
  · exact ⟨_, k0, _, rfl⟩
  · exact ⟨_, k1, rfl⟩
  · exact ⟨_, k2, _, rfl⟩
  · exact ⟨_, k3, rfl⟩
def gg2 {α : Type} (vs mz zs : List α) : List α := vs ++ (match zs, mz with | [f, l], [h, r] => [l, h, f, r] | _, _ => [])
/-- how the class is called -/
theorem callM {K : PySem.W.Frag} {f : Addr} {fd : FuncData} (F : FunD K "__init__" "Meetings.__init__" (defArgs mInit) (defBody mInit) (defScope mInit) [] kwsI f fd) : CallM K fd := by
  refine ⟨?_, ?_, ?_, ?_⟩
  · refine F.binds0 (ps := pInit) 3 (by simp) rfl fun D doc pm an cdv ct us ks hu hk => ?_
    match us, ks, hu, hk with
    | [a, b, c], [d, e, f', g], _, _ => exact ⟨_, _, _, _, _, _, rfl, rfl, _, _, _, _, _, _, rfl, rfl, _, _, _, _, _, _, rfl, rfl, _, _, _, _, _, _, rfl, rfl, rfl⟩
  · obtain ⟨mv, h⟩ := F.kbinds0 (ps := pInit) 3 ["low"] [("high", .non), ("first", .int 0), ("rounds", .non)] (fun vs mz zs => vs ++ (zs ++ mz)) (by simp) (fun q hq => List.mem_cons_of_mem _ hq) (fun r1 r2 r3 => r1.append (r3.append r2))
      (fun D doc pm an cdv ct us mv ws hu hm hw => by
        match us, mv, ws, hu, hm, hw with
        | [a, b, c], [d, e, f'], [x], _, _, _ => exact ⟨_, _, _, _, _, _, rfl, rfl, _, _, _, _, _, _, rfl, rfl, _, _, _, _, _, _, rfl, rfl, rfl⟩)
    exact ⟨_, h⟩
  · obtain ⟨mv, h⟩ := F.kbinds0 (ps := pInit) 3 ["first", "low"] [("high", .non), ("rounds", .non)] gg2 (by simp)
      (fun q hq => by
        simp only [List.mem_cons, List.not_mem_nil, or_false] at hq
        rcases hq with rfl | rfl <;> simp) (fun r1 r2 r3 => r1.append (by
        cases r3 with
        | nil => exact .nil
        | cons x1 y1 =>
          cases y1 with
          | nil => exact .nil
          | cons x2 y2 =>
            cases y2 with
            | cons x3 y3 => exact .nil
            | nil =>
              cases r2 with
              | nil => exact .nil
              | cons u1 v1 =>
                cases v1 with
                | nil => exact .nil
                | cons u2 v2 =>
                  cases v2 with
                  | cons u3 v3 => exact .nil
                  | nil => exact .cons x2 (.cons u1 (.cons x1 (.cons u2 .nil)))))
      (fun D doc pm an cdv ct us mv ws hu hm hw => by
        match us, mv, ws, hu, hm, hw with
        | [a, b, c], [d, e], [x, y], _, _, _ => exact ⟨_, _, _, _, _, _, rfl, rfl, _, _, _, _, _, _, rfl, rfl, rfl⟩)
    refine ⟨_, h.to, fun {vs us zs ws} r1 r2 => ?_⟩
    have e : gV2 vs zs = gg2 vs (([("high", V.non), ("rounds", V.non)] : List (Str × V)).map (·.2)) zs := by
      unfold gV2 gg2
      match zs with
      | [] => rfl
      | [_] => rfl
      | [_, _] => rfl
      | _ :: _ :: _ :: _ => rfl
    rw [e]
    exact h.rel r1 r2
  · obtain ⟨mv, h⟩ := F.kbinds0 (ps := pInit) 3 ["low", "high", "first", "rounds"] [] (fun vs mz zs => vs ++ zs) (by simp) (fun q hq => absurd hq List.not_mem_nil) (fun r1 r2 r3 => r1.append r3)
      (fun D doc pm an cdv ct us mv ws hu hm hw => by
        match us, mv, ws, hu, hm, hw with
        | [a, b, c], [], [x, y, z, u], _, _, _ => exact rfl)
    exact ⟨_, h⟩
structure Class (K : PySem.W.Frag) (C CA fI fF gB : Addr) : Prop where
  nC : PySem.W.nsIn K mainGlobals "Meetings" = some (some (.ref C))
  nA : PySem.W.nsIn K mainGlobals "InvalidArgument" = some (some (.ref CA))
  t : CTxt K C
  ha : PySem.W.findIn K (.ref C) "__class__" = some (some (.builtin "object.__class__"))
  hn : PySem.W.specialIn K (.builtin "object.__class__") "__get__" = some (some (.builtin "getset_descriptor.__get__"))
  htk : PySem.W.takesIn K (.builtin "object.__class__") = some true
  hm : PySem.W.mroIn K C (.type "object") = some true
  ic : PySem.W.isClsIn K C = true
  ty : PySem.W.typeIn K (.ref C) = some (.type "type")
  sN : PySem.W.subIn K (.type "NoneType") (.ref C) = some false
  sI : PySem.W.subIn K (.type "int") (.ref C) = some false
  sT : PySem.W.subIn K (.type "tuple") (.ref C) = some false
  sS : PySem.W.subIn K (.type "str") (.ref C) = some false
  sL : PySem.W.subIn K (.type "list") (.ref C) = some false
  xA : PySem.W.excIn K CA [.type "ValueError", .type "Exception", .type "BaseException", .type "object"] "ValueError.__new__" = true
  kA : PySem.W.keepIn K (.ref CA) = true
  bA : PySem.W.subIn K (.ref CA) (.type "BaseException") = some true
  tA : PySem.W.typeIn K (.ref CA) = some (.type "type")
  hA : PySem.W.hasDictIn K CA = true
  sAA : PySem.W.subIn K (.ref CA) (.ref CA) = some true
  m : Mk K C fI
  fe : Meth K C "_find_ends" fF
  bo : PySem.W.findIn K (.ref C) "__bool__" = some (some (.ref gB)) ∧ PySem.W.isFn K (.ref gB) = true
theorem kit_no {K : PySem.W.Frag} {C : Addr} {n : String} (ic : PySem.W.isClsIn K C = true) (ty : PySem.W.typeIn K (.ref C) = some (.type "type")) (s : PySem.W.subIn K (.type n) (.ref C) = some false) : PySem.W.kitOne K (.type n) (.ref C) = some false := by
  unfold PySem.W.kitOne
  rw [if_neg (by intro z; cases z)]
  have i2 : (PySem.W.clsIn K C).isSome = true := ic
  show (if ((PySem.W.clsIn K C).isSome && PySem.W.typeIn K (.ref C) == some (.type "type")) = true then PySem.W.subIn K (.type n) (.ref C) else none) = some false
  rw [i2, ty, if_pos (by rfl)]
  exact s
theorem Class.its {K : PySem.W.Frag} {h : Heap} {mg : Str → Option Value} {C CA fI fF gB : Addr} (X : K.In h) (G : h.Ns mainGlobals mg) (T : Class K C CA fI fF gB) : ITxt K mg C CA :=
  ⟨T.ha, T.hn, T.htk, T.hm, PySem.W.mg_of X G T.nC, if_pos (beq_self_eq_true _), kit_no T.ic T.ty T.sN, kit_no T.ic T.ty T.sI, kit_no T.ic T.ty T.sT, kit_no T.ic T.ty T.sS, kit_no T.ic T.ty T.sL,
    PySem.W.mg_of X G T.nA, T.xA, T.kA, T.bA, T.tA, PySem.W.exm_ref T.bA T.hA T.tA T.sAA⟩
theorem all_mk {P : Program} {w : World} {K : PySem.W.Frag} {h : Heap} {mg : Str → Option Value} {fa C CA fI fF gB : Addr} {tl : Tok} (X : K.In h) (G : h.Ns mainGlobals mg) (hfa : mg "law" = some (.ref fa))
    {fwh fpr fwi fwp fco fcb fdv fli faf fsl flm fsp fgo fle fem fmo fga fpp fdi fnx fce fgr fwd fst fld fls fme fgd fma fic ftr fmv fne fbo fss flg flp fpl fps fva fre fon flw : Addr} {fdwh fdpr fdwi fdwp fdco fdcb fddv fdli fdaf fdsl fdlm fdsp fdgo fdle fdem fdmo fdga fdpp fddi fdnx fdce fdgr fdwd fdst fdld fdls fdme fdgd fdma fdic fdtr fdmv fdne fdbo fdss fdlg fdlp fdpl fdps fdva fdre fdon fdlw : FuncData} {aP gP aO gO aL gL aH gH aF gF aR gR aN gN aQ gQ : Addr} {hP hO hL hH hF hR hN hQ : FuncData} {fdI fdF fdB : FuncData} (CL : Class K C CA fI fF gB) (wd : PySem.W.nsIn K mainGlobals "WIDE" = some (some (.int (10 ^ 100) tl)))
    (mIn : FunD K "__init__" "Meetings.__init__" (defArgs mInit) (defBody mInit) (defScope mInit) [] kwsI fI fdI) (mFe : Fun K "_find_ends" "Meetings._find_ends" mFind fF fdF) (mBo : Fun K "__bool__" "Meetings.__bool__" mBool gB fdB)
    (pP : AtP K C "place" "Meetings.place" mPlace aP gP hP) (pO : AtP K C "other" "Meetings.other" mOther aO gO hO) (pL : AtP K C "low" "Meetings.low" mLow aL gL hL) (pH : AtP K C "high" "Meetings.high" mHigh aH gH hH) (pF : AtP K C "first" "Meetings.first" mFirst aF gF hF) (pR : AtP K C "rounds" "Meetings.rounds" mRounds aR gR hR) (pN : AtP K C "nearest" "Meetings.nearest" mNearest aN gN hN) (pQ : AtP K C "paper" "Meetings.paper" mPaper aQ gQ hQ)
    (dwh : AtTop K "is_whole" tWhole fwh fdwh) (dpr : AtTop K "is_pair" tPair fpr fdpr) (dwi : AtTop K "is_wide" tWideI fwi fdwi) (dwp : AtTop K "is_wide_place" tWidePl fwp fdwp) (dco : AtTop K "check_counter" tCounter fco fdco) (dcb : AtTop K "check_bounds" tChkB fcb fdcb) (ddv : AtTop K "divisor_of" tDiv fdv fddv) (dli : AtTop K "line_of" tLine fli fdli) (daf : AtTop K "after" tAfter faf fdaf) (dsl : AtTop K "slacks" tSlacks fsl fdsl) (dlm : AtTop K "limits_of" tLimits flm fdlm) (dsp : AtTop K "span_of" tSpan fsp fdsp) (dgo : AtTop K "goes_up" tGoes fgo fdgo) (dle : AtTop K "least_by" tLeast fle fdle) (dem : AtTop K "empty_paper" tEmpty fem fdem) (dmo : AtTop K "is_modulus" tModulus fmo fdmo) (dga : AtTop K "is_gap" tGap fga fdga) (dpp : AtTop K "is_meetings_paper" tPaper fpp fdpp) (ddi : AtTop K "_law_dice" tDice fdi fddi) (dnx : AtTop K "_law_next" tNextD fnx fdnx) (dce : AtTop K "_law_cells" tCells fce fdce) (dgr : AtTop K "_law_great" tGreat fgr fdgr) (dwd : AtTop K "_law_whole" tWholeD fwd fdwd) (dst : AtTop K "_law_steps" lSteps fst fdst) (dld : AtTop K "_law_divisor" lDiv fld fdld) (dls : AtTop K "_law_step" lStep fls fdls) (dme : AtTop K "_law_meets" lMeets fme fdme) (dgd : AtTop K "_law_is_good" lGood fgd fdgd) (dma : AtTop K "_law_made" lMade fma fdma) (dic : AtTop K "_law_is_count" lCount fic fdic) (dtr : AtTop K "_law_is_truth" lTruth ftr fdtr) (dmv : AtTop K "_law_moved" lMoved fmv fdmv) (dne : AtTop K "_law_is_nearest" lNearest fne fdne) (dbo : AtTop K "_law_bounds" lBounds fbo fdbo) (dss : AtTop K "_law_spares" lSpares fss fdss) (dlg : AtTop K "_law_is_gap" lGap flg fdlg) (dlp : AtTop K "_law_is_paper" lPaper flp fdlp) (dpl : AtTop K "_law_places" lPlaces fpl fdpl) (dps : AtTop K "_law_pairs" lPairs fps fdps) (dva : AtTop K "_law_values" lValues fva fdva) (dre : AtTop K "_law_is_refused" lRefused fre fdre) (don : AtTop K "_law_one" lOne fon fdon) (dlw : AtTop K "law" tLaw flw fdlw)
    (z0 : PySem.W.nsIn K mainGlobals "isinstance" = some none) (z1 : PySem.W.nsIn K mainGlobals "int" = some none) (z2 : PySem.W.nsIn K mainGlobals "bool" = some none) (z3 : PySem.W.nsIn K mainGlobals "tuple" = some none) (z4 : PySem.W.nsIn K mainGlobals "len" = some none) (z5 : PySem.W.nsIn K mainGlobals "abs" = some none) (z6 : PySem.W.nsIn K mainGlobals "max" = some none) (z7 : PySem.W.nsIn K mainGlobals "range" = some none) (z8 : PySem.W.nsIn K mainGlobals "list" = some none) (z9 : PySem.W.nsIn K mainGlobals "zip" = some none) (z10 : PySem.W.nsIn K mainGlobals "min" = some none) (z11 : PySem.W.nsIn K mainGlobals "any" = some none) (z12 : PySem.W.nsIn K mainGlobals "all" = some none)
    (hb : ∀ (s : Shared) (v : Value), BindsTo s fdlw ⟨[v], []⟩ [("_law_script", v)]) :
    ∃ fd : FuncData, (∀ (s : Shared) (v : Value), BindsTo s fd ⟨[v], []⟩ [("_law_script", v)]) ∧ ∀ base : Heap, K.In base → base.Ns mainGlobals mg → FnOk P w K mg base CX0 9 fa fd ["_law_script"] (spLaw K) := by
  have e := hfa.symm.trans (PySem.W.mg_of X G dlw.ns)
  cases e
  refine ⟨fdlw, hb, fun base _ _ => ?_⟩
  have TX : Txt K mg := ⟨(PySem.W.mg_none_of X G z0), (PySem.W.mg_none_of X G z1), (PySem.W.mg_none_of X G z2), (PySem.W.mg_none_of X G z3), (PySem.W.mg_none_of X G z4), tl, PySem.W.mg_of X G wd⟩
  have TB : Bl mg := ⟨(PySem.W.mg_none_of X G z1), (PySem.W.mg_none_of X G z5), (PySem.W.mg_none_of X G z6), (PySem.W.mg_none_of X G z7), (PySem.W.mg_none_of X G z8), (PySem.W.mg_none_of X G z4)⟩
  have TD : DTxt mg := ⟨(PySem.W.mg_none_of X G z9), (PySem.W.mg_none_of X G z3)⟩
  have TM : MTxt mg := ⟨(PySem.W.mg_none_of X G z6), (PySem.W.mg_none_of X G z10)⟩
  have GT : GTxt mg := ⟨(PySem.W.mg_none_of X G z9), (PySem.W.mg_none_of X G z11)⟩
  have TR : RTxt mg := ⟨(PySem.W.mg_none_of X G z5), (PySem.W.mg_none_of X G z1), (PySem.W.mg_none_of X G z7)⟩
  have TP : PTxt mg := ⟨(PySem.W.mg_none_of X G z12), (PySem.W.mg_none_of X G z1)⟩
  have T := CL.t
  have I := CL.its X G
  have M := CL.m
  have CM := callM mIn
  have rP : Pn P w K mg base C "place" (spGP C) aP gP hP := ⟨ok_gP pP.fn T, pP.pr, pP.fn.binds (ps := ["self"]) fun _ _ _ _ _ _ us hl => match us, hl with | [_], _ => rfl⟩
  have rO : Pn P w K mg base C "other" (spGO C) aO gO hO := ⟨ok_gO pO.fn T, pO.pr, pO.fn.binds (ps := ["self"]) fun _ _ _ _ _ _ us hl => match us, hl with | [_], _ => rfl⟩
  have rL : Pn P w K mg base C "low" (spGB C (fun b => .int b.low)) aL gL hL := ⟨ok_gLo pL.fn T, pL.pr, pL.fn.binds (ps := ["self"]) fun _ _ _ _ _ _ us hl => match us, hl with | [_], _ => rfl⟩
  have rH : Pn P w K mg base C "high" (spGB C (fun b => oV b.high)) aH gH hH := ⟨ok_gHi pH.fn T, pH.pr, pH.fn.binds (ps := ["self"]) fun _ _ _ _ _ _ us hl => match us, hl with | [_], _ => rfl⟩
  have rF : Pn P w K mg base C "first" (spGB C (fun b => .int b.first)) aF gF hF := ⟨ok_gFi pF.fn T, pF.pr, pF.fn.binds (ps := ["self"]) fun _ _ _ _ _ _ us hl => match us, hl with | [_], _ => rfl⟩
  have rR : Pn P w K mg base C "rounds" (spGB C (fun b => oV b.rounds)) aR gR hR := ⟨ok_gRo pR.fn T, pR.pr, pR.fn.binds (ps := ["self"]) fun _ _ _ _ _ _ us hl => match us, hl with | [_], _ => rfl⟩
  have rN : Pn P w K mg base C "nearest" (spGN C) aN gN hN := ⟨ok_gN pN.fn T, pN.pr, pN.fn.binds (ps := ["self"]) fun _ _ _ _ _ _ us hl => match us, hl with | [_], _ => rfl⟩
  have rQ : Pn P w K mg base C "paper" (spGQ C) aQ gQ hQ := ⟨ok_gQ pQ.fn T, pQ.pr, pQ.fn.binds (ps := ["self"]) fun _ _ _ _ _ _ us hl => match us, hl with | [_], _ => rfl⟩
  have GP : GProps P w K mg base C aP gP aO gO aL gL aH gH aF gF aR gR hP hO hL hH hF hR := ⟨rP, rO, rL, rH, rF, rR⟩
  have Dwh : Dn P w K mg base CX0 "is_whole" ["value"] 1 (spWhole K) fwh fdwh := ⟨ok_whole dwh.fn TX, dwh.fn.kp, dwh.fn.binds (ps := ["value"]) (fun _ _ _ _ _ _ us hl => match us, hl with | [_], _ => rfl), PySem.W.mg_of X G dwh.ns⟩
  have Dpr : Dn P w K mg base CX0 "is_pair" ["value"] 2 (spPair K) fpr fdpr := ⟨ok_pair dpr.fn TX Dwh.G dwh.fn.kp Dwh.b Dwh.g, dpr.fn.kp, dpr.fn.binds (ps := ["value"]) (fun _ _ _ _ _ _ us hl => match us, hl with | [_], _ => rfl), PySem.W.mg_of X G dpr.ns⟩
  have Dwi : Dn P w K mg base CX0 "is_wide" ["value"] 2 (spWideI K) fwi fdwi := ⟨ok_wideI dwi.fn TX Dwh, dwi.fn.kp, dwi.fn.binds (ps := ["value"]) (fun _ _ _ _ _ _ us hl => match us, hl with | [_], _ => rfl), PySem.W.mg_of X G dwi.ns⟩
  have Dwp : Dn P w K mg base CX0 "is_wide_place" ["value"] 3 (spWidePl K) fwp fdwp := ⟨ok_widePl dwp.fn Dpr Dwi, dwp.fn.kp, dwp.fn.binds (ps := ["value"]) (fun _ _ _ _ _ _ us hl => match us, hl with | [_], _ => rfl), PySem.W.mg_of X G dwp.ns⟩
  have Dco : Dn P w K mg base CX0 "check_counter" ["value"] 3 (spCounter K) fco fdco := ⟨ok_counter dco.fn Dwi, dco.fn.kp, dco.fn.binds (ps := ["value"]) (fun _ _ _ _ _ _ us hl => match us, hl with | [_], _ => rfl), PySem.W.mg_of X G dco.ns⟩
  have Dcb : Dn P w K mg base CX0 "check_bounds" ["low", "high", "first", "rounds"] 4 (spChkB K) fcb fdcb := ⟨ok_chkB dcb.fn Dwi Dco, dcb.fn.kp, dcb.fn.binds (ps := ["low", "high", "first", "rounds"]) (fun _ _ _ _ _ _ us hl => match us, hl with | [_, _, _, _], _ => rfl), PySem.W.mg_of X G dcb.ns⟩
  have Ddv : Dn P w K mg base CX0 "divisor_of" ["one", "other"] 1 spDiv fdv fddv := ⟨ok_div ddv.fn TD, ddv.fn.kp, ddv.fn.binds (ps := ["one", "other"]) (fun _ _ _ _ _ _ us hl => match us, hl with | [_, _], _ => rfl), PySem.W.mg_of X G ddv.ns⟩
  have Dli : Dn P w K mg base CX0 "line_of" ["place", "other"] 2 spLine fli fdli := ⟨ok_line dli.fn Ddv, dli.fn.kp, dli.fn.binds (ps := ["place", "other"]) (fun _ _ _ _ _ _ us hl => match us, hl with | [_, _], _ => rfl), PySem.W.mg_of X G dli.ns⟩
  have Daf : Dn P w K mg base CX0 "after" ["pair", "step", "times"] 1 spAfter faf fdaf := ⟨ok_after daf.fn, daf.fn.kp, daf.fn.binds (ps := ["pair", "step", "times"]) (fun _ _ _ _ _ _ us hl => match us, hl with | [_, _, _], _ => rfl), PySem.W.mg_of X G daf.ns⟩
  have Dsl : Dn P w K mg base CX0 "slacks" ["pair", "bounds"] 1 spSlacks fsl fdsl := ⟨ok_slacks dsl.fn, dsl.fn.kp, dsl.fn.binds (ps := ["pair", "bounds"]) (fun _ _ _ _ _ _ us hl => match us, hl with | [_, _], _ => rfl), PySem.W.mg_of X G dsl.ns⟩
  have Dlm : Dn P w K mg base CX0 "limits_of" ["line", "bounds"] 2 spLimits flm fdlm := ⟨ok_limits dlm.fn TD.zip Dsl Daf, dlm.fn.kp, dlm.fn.binds (ps := ["line", "bounds"]) (fun _ _ _ _ _ _ us hl => match us, hl with | [_, _], _ => rfl), PySem.W.mg_of X G dlm.ns⟩
  have Dsp : Dn P w K mg base CX0 "span_of" ["limits"] 1 spSpan fsp fdsp := ⟨ok_span dsp.fn TM, dsp.fn.kp, dsp.fn.binds (ps := ["limits"]) (fun _ _ _ _ _ _ us hl => match us, hl with | [_], _ => rfl), PySem.W.mg_of X G dsp.ns⟩
  have Dgo : Dn P w K mg base CX0 "goes_up" ["slopes"] 1 spGoes fgo fdgo := ⟨ok_goes dgo.fn, dgo.fn.kp, dgo.fn.binds (ps := ["slopes"]) (fun _ _ _ _ _ _ us hl => match us, hl with | [_], _ => rfl), PySem.W.mg_of X G dgo.ns⟩
  have Dle : Dn P w K mg base CX0 "least_by" ["line", "span", "slopes"] 2 spLeast fle fdle := ⟨ok_least dle.fn Dgo Daf, dle.fn.kp, dle.fn.binds (ps := ["line", "span", "slopes"]) (fun _ _ _ _ _ _ us hl => match us, hl with | [_, _, _], _ => rfl), PySem.W.mg_of X G dle.ns⟩
  have Dem : Dn P w K mg base CX0 "empty_paper" ["place", "other", "line", "limits"] 2 spEmpty fem fdem := ⟨ok_empty dem.fn TM Ddv Daf, dem.fn.kp, dem.fn.binds (ps := ["place", "other", "line", "limits"]) (fun _ _ _ _ _ _ us hl => match us, hl with | [_, _, _, _], _ => rfl), PySem.W.mg_of X G dem.ns⟩
  have Dmo : Dn P w K mg base CX0 "is_modulus" ["value", "place", "other"] 2 (spModulus K) fmo fdmo := ⟨ok_modulus dmo.fn Dwh, dmo.fn.kp, dmo.fn.binds (ps := ["value", "place", "other"]) (fun _ _ _ _ _ _ us hl => match us, hl with | [_, _, _], _ => rfl), PySem.W.mg_of X G dmo.ns⟩
  have Dga : Dn P w K mg base CX0 "is_gap" ["pair", "meetings"] 3 (spGap K C) fga fdga := ⟨ok_gap dga.fn T GT GP Dpr Ddv Dsl Daf, dga.fn.kp, dga.fn.binds (ps := ["pair", "meetings"]) (fun _ _ _ _ _ _ us hl => match us, hl with | [_, _], _ => rfl), PySem.W.mg_of X G dga.ns⟩
  have Dpp : Dn P w K mg base (L2.CX P w) "is_meetings_paper" ["meetings", "value"] 4 (spPaper K C CA) fpp fdpp := ⟨ok_paper dpp.fn T TX I GP.pl GP.ot rN Dpr Dmo Dga, dpp.fn.kp, dpp.fn.binds (ps := ["meetings", "value"]) (fun _ _ _ _ _ _ us hl => match us, hl with | [_, _], _ => rfl), PySem.W.mg_of X G dpp.ns⟩
  have Ddi : Dn P w K mg base CX0 "_law_dice" ["_law_cell"] 1 spDice fdi fddi := ⟨ok_dice ddi.fn TB, ddi.fn.kp, ddi.fn.binds (ps := ["_law_cell"]) (fun _ _ _ _ _ _ us hl => match us, hl with | [_], _ => rfl), PySem.W.mg_of X G ddi.ns⟩
  have Dnx : Dn P w K mg base CX0 "_law_next" ["_law_dice_here", "_law_many"] 1 spNext fnx fdnx := ⟨ok_next dnx.fn TB, dnx.fn.kp, dnx.fn.binds (ps := ["_law_dice_here", "_law_many"]) (fun _ _ _ _ _ _ us hl => match us, hl with | [_, _], _ => rfl), PySem.W.mg_of X G dnx.ns⟩
  have Dce : Dn P w K mg base CX0 "_law_cells" ["_law_script", "_law_most"] 1 (spCells K) fce fdce := ⟨ok_cells dce.fn TB, dce.fn.kp, dce.fn.binds (ps := ["_law_script", "_law_most"]) (fun _ _ _ _ _ _ us hl => match us, hl with | [_, _], _ => rfl), PySem.W.mg_of X G dce.ns⟩
  have Dgr : Dn P w K mg base CX0 "_law_great" ["_law_dice_here"] 2 spDraw fgr fdgr := ⟨ok_great dgr.fn TB Dnx.G dnx.fn.kp Dnx.b Dnx.g, dgr.fn.kp, dgr.fn.binds (ps := ["_law_dice_here"]) (fun _ _ _ _ _ _ us hl => match us, hl with | [_], _ => rfl), PySem.W.mg_of X G dgr.ns⟩
  have Dwd : Dn P w K mg base CX0 "_law_whole" ["_law_dice_here"] 3 spDraw fwd fdwd := ⟨ok_wholeD dwd.fn Dnx.G dnx.fn.kp Dnx.b Dnx.g Dgr.G dgr.fn.kp Dgr.b Dgr.g, dwd.fn.kp, dwd.fn.binds (ps := ["_law_dice_here"]) (fun _ _ _ _ _ _ us hl => match us, hl with | [_], _ => rfl), PySem.W.mg_of X G dwd.ns⟩
  have Dst : Dn P w K mg base CX0 "_law_steps" ["_law_dice_here"] 4 spSteps fst fdst := ⟨lok_steps dst.fn Dnx Dwd, dst.fn.kp, dst.fn.binds (ps := ["_law_dice_here"]) (fun _ _ _ _ _ _ us hl => match us, hl with | [_], _ => rfl), PySem.W.mg_of X G dst.ns⟩
  have Dld : Dn P w K mg base CX0 "_law_divisor" ["_law_one_here", "_law_other"] 1 spLDiv fld fdld := ⟨lok_div dld.fn TR, dld.fn.kp, dld.fn.binds (ps := ["_law_one_here", "_law_other"]) (fun _ _ _ _ _ _ us hl => match us, hl with | [_, _], _ => rfl), PySem.W.mg_of X G dld.ns⟩
  have Dls : Dn P w K mg base CX0 "_law_step" ["_law_place", "_law_other"] 2 spLStep fls fdls := ⟨lok_step dls.fn Dld, dls.fn.kp, dls.fn.binds (ps := ["_law_place", "_law_other"]) (fun _ _ _ _ _ _ us hl => match us, hl with | [_, _], _ => rfl), PySem.W.mg_of X G dls.ns⟩
  have Dme : Dn P w K mg base CX0 "_law_meets" ["_law_place", "_law_other", "_law_pair"] 1 spLMeets fme fdme := ⟨lok_meets dme.fn, dme.fn.kp, dme.fn.binds (ps := ["_law_place", "_law_other", "_law_pair"]) (fun _ _ _ _ _ _ us hl => match us, hl with | [_, _, _], _ => rfl), PySem.W.mg_of X G dme.ns⟩
  have Dgd : Dn P w K mg base CX0 "_law_is_good" ["_law_place", "_law_other", "_law_bounds_here", "_law_pair"] 2 spLGood fgd fdgd := ⟨lok_good dgd.fn Dme, dgd.fn.kp, dgd.fn.binds (ps := ["_law_place", "_law_other", "_law_bounds_here", "_law_pair"]) (fun _ _ _ _ _ _ us hl => match us, hl with | [_, _, _, _], _ => rfl), PySem.W.mg_of X G dgd.ns⟩
  have bFe : Binds K fdF ["self"] [] := mFe.binds (ps := ["self"]) fun _ _ _ _ _ _ us hl => match us, hl with | [_], _ => rfl
  have GI : FnOk P w K mg base CX0 5 fI fdI pInit (spInit C) := ok_init mIn T Dwp Dcb Dli Dlm Dsp Dem (ok_find mFe T Dle) bFe CL.fe
  have Dma : Dn P w K mg base CX0 "_law_made" ["_law_place", "_law_other", "_law_bounds_here"] 7 (spMade C) fma fdma := ⟨lok_made dma.fn I.gC M GI CM, dma.fn.kp, dma.fn.binds (ps := ["_law_place", "_law_other", "_law_bounds_here"]) (fun _ _ _ _ _ _ us hl => match us, hl with | [_, _, _], _ => rfl), PySem.W.mg_of X G dma.ns⟩
  have Dic : Dn P w K mg base CX0 "_law_is_count" ["_law_value"] 1 (spWhole K) fic fdic := ⟨lok_count dic.fn TX, dic.fn.kp, dic.fn.binds (ps := ["_law_value"]) (fun _ _ _ _ _ _ us hl => match us, hl with | [_], _ => rfl), PySem.W.mg_of X G dic.ns⟩
  have Dtr : Dn P w K mg base CX0 "_law_is_truth" ["_law_value", "_law_due"] 1 spTruth ftr fdtr := ⟨lok_truth dtr.fn TX, dtr.fn.kp, dtr.fn.binds (ps := ["_law_value", "_law_due"]) (fun _ _ _ _ _ _ us hl => match us, hl with | [_, _], _ => rfl), PySem.W.mg_of X G dtr.ns⟩
  have Dmv : Dn P w K mg base CX0 "_law_moved" ["_law_pair", "_law_step_here", "_law_many"] 1 spAfter fmv fdmv := ⟨lok_moved dmv.fn, dmv.fn.kp, dmv.fn.binds (ps := ["_law_pair", "_law_step_here", "_law_many"]) (fun _ _ _ _ _ _ us hl => match us, hl with | [_, _, _], _ => rfl), PySem.W.mg_of X G dmv.ns⟩
  have Dne : Dn P w K mg base CX0 "_law_is_nearest" ["_law_place", "_law_other", "_law_bounds_here", "_law_pair"] 3 spLNear fne fdne := ⟨lok_near dne.fn Dgd Dls Dmv, dne.fn.kp, dne.fn.binds (ps := ["_law_place", "_law_other", "_law_bounds_here", "_law_pair"]) (fun _ _ _ _ _ _ us hl => match us, hl with | [_, _, _, _], _ => rfl), PySem.W.mg_of X G dne.ns⟩
  have Dbo : Dn P w K mg base CX0 "_law_bounds" ["_law_dice_here", "_law_most"] 2 spBounds fbo fdbo := ⟨lok_bounds dbo.fn Dnx, dbo.fn.kp, dbo.fn.binds (ps := ["_law_dice_here", "_law_most"]) (fun _ _ _ _ _ _ us hl => match us, hl with | [_, _], _ => rfl), PySem.W.mg_of X G dbo.ns⟩
  have Dss : Dn P w K mg base CX0 "_law_spares" ["_law_place", "_law_other", "_law_bounds_here", "_law_pair"] 3 spLSpares fss fdss := ⟨lok_spares dss.fn Dls, dss.fn.kp, dss.fn.binds (ps := ["_law_place", "_law_other", "_law_bounds_here", "_law_pair"]) (fun _ _ _ _ _ _ us hl => match us, hl with | [_, _, _, _], _ => rfl), PySem.W.mg_of X G dss.ns⟩
  have Dlg : Dn P w K mg base CX0 "_law_is_gap" ["_law_place", "_law_other", "_law_bounds_here", "_law_pair"] 4 spLGap flg fdlg := ⟨lok_gap dlg.fn GT.any Dme Dss, dlg.fn.kp, dlg.fn.binds (ps := ["_law_place", "_law_other", "_law_bounds_here", "_law_pair"]) (fun _ _ _ _ _ _ us hl => match us, hl with | [_, _, _, _], _ => rfl), PySem.W.mg_of X G dlg.ns⟩
  have Dlp : Dn P w K mg base CX0 "_law_is_paper" ["_law_place", "_law_other", "_law_bounds_here", "_law_value"] 5 (spLPaper K) flp fdlp := ⟨lok_paper dlp.fn TX TP Dic Dne Dlg, dlp.fn.kp, dlp.fn.binds (ps := ["_law_place", "_law_other", "_law_bounds_here", "_law_value"]) (fun _ _ _ _ _ _ us hl => match us, hl with | [_, _, _, _], _ => rfl), PySem.W.mg_of X G dlp.ns⟩
  have Dpl : Dn P w K mg base CX0 "_law_places" ["_law_dice_here"] 5 spPlaces fpl fdpl := ⟨lok_places dpl.fn Dnx Dwd Dst, dpl.fn.kp, dpl.fn.binds (ps := ["_law_dice_here"]) (fun _ _ _ _ _ _ us hl => match us, hl with | [_], _ => rfl), PySem.W.mg_of X G dpl.ns⟩
  have Dps : Dn P w K mg base CX0 "_law_pairs" ["_law_place", "_law_other", "_law_paper", "_law_dice_here"] 4 spPairs fps fdps := ⟨lok_pairs dps.fn TX TB.range Dnx Dwd Dls Dmv, dps.fn.kp, dps.fn.binds (ps := ["_law_place", "_law_other", "_law_paper", "_law_dice_here"]) (fun _ _ _ _ _ _ us hl => match us, hl with | [_, _, _, _], _ => rfl), PySem.W.mg_of X G dps.ns⟩
  have Dva : Dn P w K mg base CX0 "_law_values" ["_law_place", "_law_other", "_law_paper", "_law_dice_here"] 5 (spValues K) fva fdva := ⟨lok_values dva.fn Dnx Dps Dld, dva.fn.kp, dva.fn.binds (ps := ["_law_place", "_law_other", "_law_paper", "_law_dice_here"]) (fun _ _ _ _ _ _ us hl => match us, hl with | [_, _, _, _], _ => rfl), PySem.W.mg_of X G dva.ns⟩
  have Dre : Dn P w K mg base CX0 "_law_is_refused" ["_law_value", "_law_paper"] 5 (spRefused K C) fre fdre := ⟨lok_refused dre.fn I Dpp, dre.fn.kp, dre.fn.binds (ps := ["_law_value", "_law_paper"]) (fun _ _ _ _ _ _ us hl => match us, hl with | [_, _], _ => rfl), PySem.W.mg_of X G dre.ns⟩
  have Don : Dn P w K mg base CX0 "_law_one" ["_law_cell"] 8 spOne fon fdon := ⟨lok_one don.fn TX T I Ddi Dpl Dbo Dma Dlp Dpp Dtr Dva rQ (ok_bool mBo T) (mBo.binds (ps := ["self"]) fun _ _ _ _ _ _ us hl => match us, hl with | [_], _ => rfl) CL.bo.1 CL.bo.2, don.fn.kp, don.fn.binds (ps := ["_law_cell"]) (fun _ _ _ _ _ _ us hl => match us, hl with | [_], _ => rfl), PySem.W.mg_of X G don.ns⟩
  exact ok_law dlw.fn I Dce Don Dre
theorem walk {l : PySem.W.OpenLaw} {q : Program} {loose : List Str} {XP : (Str → Option Value) → Heap → Prop} {YP : World → Heap → Prop} {d : DefRec} {K : Params → PySem.W.Frag} (hn : l.most = some 63) (hdf : d.params.defaults = [])
    (hY : ∀ (w : World) (h : Heap), YP w h → (K w.params).In h)
    (F : ∀ (w : World) (mg : Str → Option Value) (fa : Addr) (h : Heap), (K w.params).In h → h.Ns mainGlobals mg → mg d.name = some (.ref fa) →
      ∃ fd : FuncData, (∀ (s : Shared) (u : Value), BindsTo s fd ⟨[u], []⟩ [("_law_script", u)]) ∧ ∀ base : Heap, (K w.params).In base → base.Ns mainGlobals mg → FnOk l.prog w (K w.params) mg base CX0 9 fa fd ["_law_script"] (spLaw (K w.params))) :
    PySem.W.WalkO q loose XP YP l.row.toRowW d [] (fun f vs => PySem.call f vs) :=
  L2.walk_of (n := 63) (k := 9) (x := "_law_script") (CX := fun _ => CX0) (sp := fun w => spLaw (K w.params)) hn (by decide) hdf ⟨rfl, by decide, by decide⟩ hY F (fun _ _ a ns hl _ hS => ⟨a, ns, rfl, hS, hl, fun _ => rfl⟩) fun _ _ _ _ _ z => z
end K11
open PySem PySem.W PyProof.Rows
set_option maxRecDepth 100000 in
set_option maxHeartbeats 0 in
theorem PySem.Challenge.cw_loopfoundry_k11_papers_of_meetings_judge_holds : PySem.Challenge.rw_loopfoundry_k11_papers_of_meetings_judge.Holds := by
  w_on; o_law; k_head; (case hw => w_witness2)
  k_fill
  refine K11.walk (l := PySem.Challenge.rw_loopfoundry_k11_papers_of_meetings_judge) rfl rfl (fun w h Y => PySem.W.kIn_of Y) ?F
  case F =>
    intro w mg fa h KX G hmg
    refine' K11.all_mk KX G hmg ?CL ?wd (K11.atI ?il ?ic ?ik ?i0 ?i1 ?i2 ?i3) (K11.atM ?fl ?fc ?fk) (K11.atM ?bl ?bc ?bk) (K11.atP ?paP ?pbP ?pcP ?pdP ?plP ?peP ?pkP) (K11.atP ?paO ?pbO ?pcO ?pdO ?plO ?peO ?pkO) (K11.atP ?paL ?pbL ?pcL ?pdL ?plL ?peL ?pkL) (K11.atP ?paH ?pbH ?pcH ?pdH ?plH ?peH ?pkH) (K11.atP ?paF ?pbF ?pcF ?pdF ?plF ?peF ?pkF) (K11.atP ?paR ?pbR ?pcR ?pdR ?plR ?peR ?pkR) (K11.atP ?paN ?pbN ?pcN ?pdN ?plN ?peN ?pkN) (K11.atP ?paQ ?pbQ ?pcQ ?pdQ ?plQ ?peQ ?pkQ) (K11.atTop ?awh ?lwh ?cwh ?kwh) (K11.atTop ?apr ?lpr ?cpr ?kpr) (K11.atTop ?awi ?lwi ?cwi ?kwi) (K11.atTop ?awp ?lwp ?cwp ?kwp) (K11.atTop ?aco ?lco ?cco ?kco) (K11.atTop ?acb ?lcb ?ccb ?kcb) (K11.atTop ?adv ?ldv ?cdv ?kdv) (K11.atTop ?ali ?lli ?cli ?kli) (K11.atTop ?aaf ?laf ?caf ?kaf) (K11.atTop ?asl ?lsl ?csl ?ksl) (K11.atTop ?alm ?llm ?clm ?klm) (K11.atTop ?asp ?lsp ?csp ?ksp) (K11.atTop ?ago ?lgo ?cgo ?kgo) (K11.atTop ?ale ?lle ?cle ?kle) (K11.atTop ?aem ?lem ?cem ?kem) (K11.atTop ?amo ?lmo ?cmo ?kmo) (K11.atTop ?aga ?lga ?cga ?kga) (K11.atTop ?app ?lpp ?cpp ?kpp) (K11.atTop ?adi ?ldi ?cdi ?kdi) (K11.atTop ?anx ?lnx ?cnx ?knx) (K11.atTop ?ace ?lce ?cce ?kce) (K11.atTop ?agr ?lgr ?cgr ?kgr) (K11.atTop ?awd ?lwd ?cwd ?kwd) (K11.atTop ?ast ?lst ?cst ?kst) (K11.atTop ?ald ?lld ?cld ?kld) (K11.atTop ?als ?lls ?cls ?kls) (K11.atTop ?ame ?lme ?cme ?kme) (K11.atTop ?agd ?lgd ?cgd ?kgd) (K11.atTop ?ama ?lma ?cma ?kma) (K11.atTop ?aic ?lic ?cic ?kic) (K11.atTop ?atr ?ltr ?ctr ?ktr) (K11.atTop ?amv ?lmv ?cmv ?kmv) (K11.atTop ?ane ?lne ?cne ?kne) (K11.atTop ?abo ?lbo ?cbo ?kbo) (K11.atTop ?ass ?lss ?css ?kss) (K11.atTop ?alg ?llg ?clg ?klg) (K11.atTop ?alp ?llp ?clp ?klp) (K11.atTop ?apl ?lpl ?cpl ?kpl) (K11.atTop ?aps ?lps ?cps ?kps) (K11.atTop ?ava ?lva ?cva ?kva) (K11.atTop ?are ?lre ?cre ?kre) (K11.atTop ?aon ?lon ?con ?kon) (K11.atTop ?alw ?llw ?clw ?klw) ?z0 ?z1 ?z2 ?z3 ?z4 ?z5 ?z6 ?z7 ?z8 ?z9 ?z10 ?z11 ?z12 ?hb
    case CL =>
      refine' ⟨?nC, ?nA, ⟨⟨?cpg, ?chd, ?cpo, ?csa⟩, ?nP, ?nB, ?nL, ?nN, ?nS, ?nT, ?nR, ?nAm, ?nQ⟩, ?ha, ?hn, ?htk, ?hm, ?ic2, ?ty, ?sN, ?sI, ?sT, ?sS, ?sL, ?xA, ?kA, ?bA, ?tA, ?hA, ?sAA, ⟨?mm, ?mi, ?mf, ?mk⟩, ⟨?ma, ?mn, ?mp⟩, ?bo1, ?bo2⟩
      (case nC => k_is)
      (case nA => k_is)
      (case cpg => k_is)
      (case chd => k_is)
      (case cpo => k_is)
      (case csa => k_is)
      (case nP => unfold L2.NoAttr; k_is)
      (case nB => unfold L2.NoAttr; k_is)
      (case nL => unfold L2.NoAttr; k_is)
      (case nN => unfold L2.NoAttr; k_is)
      (case nS => unfold L2.NoAttr; k_is)
      (case nT => unfold L2.NoAttr; k_is)
      (case nR => unfold L2.NoAttr; k_is)
      (case nAm => unfold L2.NoAttr; k_is)
      (case nQ => unfold L2.NoAttr; k_is)
      (case ha => k_is)
      (case hn => k_is)
      (case htk => k_is)
      (case hm => k_is)
      (case ic2 => k_is)
      (case ty => k_is)
      (case sN => k_is)
      (case sI => k_is)
      (case sT => k_is)
      (case sS => k_is)
      (case sL => k_is)
      (case xA => k_exc)
      (case kA => k_is)
      (case bA => k_is)
      (case tA => k_is)
      (case hA => k_is)
      (case sAA => first | rfl | k_is)
      (case mm => k_is)
      (case mi => k_is)
      (case mf => k_is)
      (case mk => k_is)
      (case ma => k_is)
      (case mn => k_is)
      (case mp => k_is)
      (case bo1 => k_is)
      (case bo2 => k_is)
    (case wd => k_is)
    (case il => k_is)
    (case ic => k_is)
    (case ik => k_is)
    (case i0 => k_is)
    (case i1 => k_is)
    (case i2 => k_is)
    (case i3 => k_is)
    (case fl => k_is)
    (case fc => k_is)
    (case fk => k_is)
    (case bl => k_is)
    (case bc => k_is)
    (case bk => k_is)
    (case paP => k_is); (case pbP => k_is); (case pcP => k_is); (case pdP => k_is); (case plP => k_is); (case peP => k_is); (case pkP => k_is)
    (case paO => k_is); (case pbO => k_is); (case pcO => k_is); (case pdO => k_is); (case plO => k_is); (case peO => k_is); (case pkO => k_is)
    (case paL => k_is); (case pbL => k_is); (case pcL => k_is); (case pdL => k_is); (case plL => k_is); (case peL => k_is); (case pkL => k_is)
    (case paH => k_is); (case pbH => k_is); (case pcH => k_is); (case pdH => k_is); (case plH => k_is); (case peH => k_is); (case pkH => k_is)
    (case paF => k_is); (case pbF => k_is); (case pcF => k_is); (case pdF => k_is); (case plF => k_is); (case peF => k_is); (case pkF => k_is)
    (case paR => k_is); (case pbR => k_is); (case pcR => k_is); (case pdR => k_is); (case plR => k_is); (case peR => k_is); (case pkR => k_is)
    (case paN => k_is); (case pbN => k_is); (case pcN => k_is); (case pdN => k_is); (case plN => k_is); (case peN => k_is); (case pkN => k_is)
    (case paQ => k_is); (case pbQ => k_is); (case pcQ => k_is); (case pdQ => k_is); (case plQ => k_is); (case peQ => k_is); (case pkQ => k_is)
    (case awh => k_is); (case lwh => k_is); (case cwh => k_is); (case kwh => k_is)
    (case apr => k_is); (case lpr => k_is); (case cpr => k_is); (case kpr => k_is)
    (case awi => k_is); (case lwi => k_is); (case cwi => k_is); (case kwi => k_is)
    (case awp => k_is); (case lwp => k_is); (case cwp => k_is); (case kwp => k_is)
    (case aco => k_is); (case lco => k_is); (case cco => k_is); (case kco => k_is)
    (case acb => k_is); (case lcb => k_is); (case ccb => k_is); (case kcb => k_is)
    (case adv => k_is); (case ldv => k_is); (case cdv => k_is); (case kdv => k_is)
    (case ali => k_is); (case lli => k_is); (case cli => k_is); (case kli => k_is)
    (case aaf => k_is); (case laf => k_is); (case caf => k_is); (case kaf => k_is)
    (case asl => k_is); (case lsl => k_is); (case csl => k_is); (case ksl => k_is)
    (case alm => k_is); (case llm => k_is); (case clm => k_is); (case klm => k_is)
    (case asp => k_is); (case lsp => k_is); (case csp => k_is); (case ksp => k_is)
    (case ago => k_is); (case lgo => k_is); (case cgo => k_is); (case kgo => k_is)
    (case ale => k_is); (case lle => k_is); (case cle => k_is); (case kle => k_is)
    (case aem => k_is); (case lem => k_is); (case cem => k_is); (case kem => k_is)
    (case amo => k_is); (case lmo => k_is); (case cmo => k_is); (case kmo => k_is)
    (case aga => k_is); (case lga => k_is); (case cga => k_is); (case kga => k_is)
    (case app => k_is); (case lpp => k_is); (case cpp => k_is); (case kpp => k_is)
    (case adi => k_is); (case ldi => k_is); (case cdi => k_is); (case kdi => k_is)
    (case anx => k_is); (case lnx => k_is); (case cnx => k_is); (case knx => k_is)
    (case ace => k_is); (case lce => k_is); (case cce => k_is); (case kce => k_is)
    (case agr => k_is); (case lgr => k_is); (case cgr => k_is); (case kgr => k_is)
    (case awd => k_is); (case lwd => k_is); (case cwd => k_is); (case kwd => k_is)
    (case ast => k_is); (case lst => k_is); (case cst => k_is); (case kst => k_is)
    (case ald => k_is); (case lld => k_is); (case cld => k_is); (case kld => k_is)
    (case als => k_is); (case lls => k_is); (case cls => k_is); (case kls => k_is)
    (case ame => k_is); (case lme => k_is); (case cme => k_is); (case kme => k_is)
    (case agd => k_is); (case lgd => k_is); (case cgd => k_is); (case kgd => k_is)
    (case ama => k_is); (case lma => k_is); (case cma => k_is); (case kma => k_is)
    (case aic => k_is); (case lic => k_is); (case cic => k_is); (case kic => k_is)
    (case atr => k_is); (case ltr => k_is); (case ctr => k_is); (case ktr => k_is)
    (case amv => k_is); (case lmv => k_is); (case cmv => k_is); (case kmv => k_is)
    (case ane => k_is); (case lne => k_is); (case cne => k_is); (case kne => k_is)
    (case abo => k_is); (case lbo => k_is); (case cbo => k_is); (case kbo => k_is)
    (case ass => k_is); (case lss => k_is); (case css => k_is); (case kss => k_is)
    (case alg => k_is); (case llg => k_is); (case clg => k_is); (case klg => k_is)
    (case alp => k_is); (case llp => k_is); (case clp => k_is); (case klp => k_is)
    (case apl => k_is); (case lpl => k_is); (case cpl => k_is); (case kpl => k_is)
    (case aps => k_is); (case lps => k_is); (case cps => k_is); (case kps => k_is)
    (case ava => k_is); (case lva => k_is); (case cva => k_is); (case kva => k_is)
    (case are => k_is); (case lre => k_is); (case cre => k_is); (case kre => k_is)
    (case aon => k_is); (case lon => k_is); (case con => k_is); (case kon => k_is)
    (case alw => k_is); (case llw => k_is); (case clw => k_is); (case klw => k_is)
    (case z0 => k_is); (case z1 => k_is); (case z2 => k_is); (case z3 => k_is); (case z4 => k_is); (case z5 => k_is); (case z6 => k_is); (case z7 => k_is); (case z8 => k_is); (case z9 => k_is); (case z10 => k_is); (case z11 => k_is); (case z12 => k_is)
    (case hb => exact fun s v => .of_eq rfl)
