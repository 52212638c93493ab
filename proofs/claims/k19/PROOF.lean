import PyProof.Rows.All
import Wide.All
import OpenK.AllK
import Wide.FinOn
import PyProof.ReprRoads
import PyProof.CallFns
import HandS.ForMost
import HandS.ForExc
import HandS.Lambda
import HandS.EndBits
import HandS.EndTab
import PyProof.NeKinds
import PyProof.NeData
import PyProof.FactsAll.dict_1
import PyProof.FactsAll.dict_2
import PyProof.FactsAll.subtypes
import KE.GoesEnum
import HandS.Walk
import HandS.Zip
import KE.DataCmp
import PyProof.ReprLoop
import PyProof.ReprReads
import PyProof.EqAt
import PyProof.EqKinds
import PyProof.TupleCall
import HandS.Base
import HandS.Call
import HandS.Exc
import HandS.Comp
import HandS.Dict
import HandS.Ends
import HandS.Words
import HandS.WordsList
import HandS.WordsDict
import HandS.ExcOwn
import HandS.Wide
import HandS.IsInst
import HandS.ExcIs
import HandS.TupLe
import HandS.TupAny
import HandS.TupMul
import HandS.Text
import PyProof.Fits
import PyProof.FitsReplace
import HandS.WordsExc
import HandS.Star
import KE.KExcInit
import KE.KIsAll
import KE.KExcIs
import HandS.ExcField
import HandS.ExcValue
import KE.KNest
import PySem.Challenge.RW_loopfoundry_k19_what_shapes_fit_and_thei
set_option Elab.async false
set_option linter.all false
set_option maxRecDepth 100000
set_option maxHeartbeats 4000000
/-! defs that are told that no repr is under way around them; repr of data; the end of a law for them -/
namespace L2.My
open PySem PySem.Spec PyProof.Rows
/-- as FnOk, where the guards around are none -/
structure FnG (P : Program) (w : World) (K : PySem.W.Frag) (mg : Str → Option Value) (base : Heap) (k : Nat) (f : Addr) (fd : FuncData) (ps : List Str) (sp : Sp) : Prop where
  len : ∀ vs H Q E, sp vs H Q E → vs.length = ps.length
  run : ∀ (A : Around) (outer : List Env) (s : Shared) (H : Hp) (args : Args) (us : List Value) (vs : List V) (Q : VK) (E : XK), Room k A → A.guards = some [] → Env0 P w K mg base A outer s H →
    BindsTo s fd args (ps.zip us) → Vals vs us → sp vs H Q E → codeAny (model P w) A (.call (.ref f) args) (CR CX0 outer P w H s Q E) s
theorem guards_deeper {A : Around} {env : Env} (h : A.guards = some []) : (A.deeper env).guards = some [] := h
section
variable {P : Program} {w : World} {K : PySem.W.Frag} {mg : Str → Option Value} {base : Heap}
theorem Fun.okG {x qual : Str} {st : Stmt} {f : Addr} {fd : FuncData} {N ps : List Str} {k : Nat} {sp : Sp} (F : Fun K x qual st f fd) (S : FnScope N ps (defScope st)) (len : ∀ vs H Q E, sp vs H Q E → vs.length = ps.length)
    (hbody : ∀ (cdv : Value) (A : Around) (outer : List Env) (s : Shared) (H : Hp) (vs : List V) (Q : VK) (E : XK), PySem.W.codeIn K cdv qual = true → Room k (A.deeper (envOfC qual (defScope st) s.heap.objs.size f cdv)) → A.guards = some [] → sp vs H Q E →
      ∃ t, PSs (cxOf CX0 P w K mg base N qual (defScope st) f cdv A outer s H E).nox (defBody st) t ∧ t { nx := fun _ H' => Q .non H', rt := Q } (start N vs) H) : FnG P w K mg base (k + 1) f fd ps sp := by
  obtain ⟨oc, od, kV, doc, pm, an, cdv, ct, osl, rfl, lk, hcd⟩ := F.ex
  refine ⟨len, fun A outer s H args us vs Q E hr hg e0 hb r h => ?_⟩
  refine LamX.run_ofS lk hcd S hr e0 hb r (len _ _ _ _ h) fun hr' => ?_
  obtain ⟨t, ht, q⟩ := hbody cdv A outer s H vs Q E hcd hr' hg h
  exact ⟨t, ht.nox, q⟩
end
section
variable {X : Cx}
/-- f(e, ..), f such a def -/
theorem pe_callG {k : Nat} {f : Addr} {fd : FuncData} {ps : List Str} {sp : Sp} {x : Str} {p pos : Pos} {e : Expr} {es : List Expr} {t : TA} (F : FnG X.prog X.w X.K X.mg X.base k f fd ps sp) (hr : Room k X.A) (gd : X.A.guards = some []) (hg : Gl X x) (hm : X.mg x = some (.ref f))
    (hk : PySem.W.keepIn X.K (.ref f) = true) (hb : Binds X.K fd ps []) (ha : PA X (e :: es) t) (hdb : (x == ("__debug__" : Str)) = false := by decide)
    (he : starEach (e :: es) X.env = (false, eval e X.env) :: starEach es X.env := by rfl) (hpl : (backTo pos (starEach es X.env)).any (·.1) = false := by rfl) :
    PE X (.Call (.Name x p) (e :: es) [] pos) (tCall sp [] E0 t) := by
  refine ⟨fun pins s σ H Q I h => wpAny_Call_Name_kw (ld_glob I hg hm (PySem.W.callWith_K (h₀ := X.base) I.ok.mod.kin hk (thn (ha.run pos pins s σ H _ I h) fun us s1 hh => ?_) he hpl) hdb)⟩
  obtain ⟨vs, H1, I1, r, q⟩ := hh
  rw [List.append_nil] at q
  have hl : us.length = ps.length := by rw [← r.length]; exact F.len _ _ _ _ q
  have hb2 := hb s1 us I1.kIn (by rw [List.append_nil]; exact hl)
  rw [List.append_nil] at hb2
  refine ⟨I1.kIn, wpAny_call (codeAny_mono (F.run X.A X.stack s1 H1 ⟨us, []⟩ us vs Q E0 hr gd I1.env0 hb2 r q) fun r2 s2 hq => ?_)⟩
  match r2, hq with
  | .error e, hq => exact (show False from hq).elim
  | .ok (.ret u), hq => exact I1.after hq
  | .ok .next, hq => exact False.elim hq
  | .ok .brk, hq => exact False.elim hq
  | .ok .cont, hq => exact False.elim hq
/-- repr(v) of data without dicts -/
def rRepr (K : PySem.W.Frag) : List V → Hp → VK → Prop := fun xs H Q => ∃ v d, xs = [v] ∧ Dp K H v d ∧ d.showable = true ∧ d.hasDict = false ∧ d.depth ≤ 64 ∧ d.shown.length ≤ sizeLine ∧ Q (.str d.shown) H
theorem call_repr (gd : X.A.guards = some []) (hu : X.A.units + 70 < cLine) : CallR X (.builtin "repr") (rRepr X.K) := by
  intro pins s σ H xs us Q I r h
  obtain ⟨v, d, rfl, dp, sh, nd, dd, sz, q⟩ := h
  obtain ⟨u, rfl, ru⟩ : ∃ u, us = [u] ∧ RelV v u := by
    cases r with
    | cons ra rn =>
      cases rn
      exact ⟨_, rfl, ra⟩
  have done : ∀ t tk, EP X pins σ Q (.str d.shown t) { s with toks := tk } := fun t tk => ⟨.str d.shown, H, I.tok tk, ⟨t, rfl⟩, q⟩
  obtain ⟨as, rd⟩ := Dp.reads I d v u dp ru
  cases rd with
  | none => exact PySem.P.repr_of_none (done _ _)
  | bool b => exact PySem.P.repr_of_bool (done _ _)
  | int i t => exact PySem.P.repr_of_int (by simpa [PyData.showable] using sh) (done _ _)
  | str x t => exact PySem.P.repr_of_str (done _ _) sz
  | list e1 e2 e3 ra =>
    refine repr_of_reads' (.list e1 e2 e3 ra) sh (PyData.noDict_hsm nd) gd (by omega) (fun _ _ e => e) (fun h' t tk hk => ?_) sz
    exact ⟨.str _, H, I.kept (t' := tk) hk, ⟨t, rfl⟩, q⟩
  | tuple e1 e2 e3 ra =>
    refine repr_of_reads' (.tuple e1 e2 e3 ra) sh (PyData.noDict_hsm nd) gd (by omega) (fun _ _ e => e) (fun h' t tk hk => ?_) sz
    exact ⟨.str _, H, I.kept (t' := tk) hk, ⟨t, rfl⟩, q⟩
  | dict => cases nd
end
end L2.My
/-! the end of a law for such defs, with tables of code objects -/
namespace L2.My
open PySem PySem.Spec PyProof.Rows
abbrev scrO (vs : List Value) : Obj := { cls := .type "list", data := .seq vs.toArray }
abbrev tabO : Obj := { cls := .none, data := .fields #[] }
/-- the abstract heap at the law's entry: the tables, and the script if it is no object of the module -/
structure Begin (K : PySem.W.Frag) (a : Addr) (vs : List Value) (ns : List Int) (ts : List Addr) (H : Hp) : Prop where
  tab : ∀ b ∈ ts, H b = some (.tbl #[])
  cas : ∀ b u, H b = some u → (b ∈ ts ∧ u = .tbl #[]) ∨ (b = a ∧ K.lookup a = none ∧ u = .frz (scrO vs) (.lst (ns.map V.int)))
  scr : SqL K H a (ns.map V.int)
theorem begin_ex {K : PySem.W.Frag} {h : Heap} {a : Addr} {vs : List Value} {ns : List Int} {ts : List Addr} (KX : K.In h) (ha : h.get? a = some (scrO vs)) (hi : IntsAre vs ns) (hl : ns.length ≤ sizeLine) (na : a ∉ ts) : ∃ H, Begin K a vs ns ts H := by
  cases hk : K.lookup a with
  | some o =>
    have e := (KX a o hk).symm.trans ha
    cases e
    have sz : vs.toArray.size ≤ sizeLine := by rw [List.size_toArray, hi.length]; exact hl
    refine ⟨fun b => if b ∈ ts then some (.tbl #[]) else none, fun b hb => if_pos hb, fun b u e => ?_, .inr ⟨_, vs.toArray, _, hk, rfl, rfl, rfl, sz, by simpa using vals_ints hi⟩⟩
    by_cases hb : b ∈ ts
    · exact .inl ⟨hb, (Option.some.inj ((if_pos hb).symm.trans e)).symm⟩
    · cases (if_neg hb).symm.trans e
  | none =>
    refine ⟨fun b => if b ∈ ts then some (.tbl #[]) else if b = a then some (.frz (scrO vs) (.lst (ns.map V.int))) else none, fun b hb => if_pos hb, fun b u e => ?_, .inl (.inr ⟨scrO vs, (if_neg na).trans (if_pos rfl)⟩)⟩
    by_cases hb : b ∈ ts
    · exact .inl ⟨hb, (Option.some.inj ((if_pos hb).symm.trans e)).symm⟩
    · have e2 := (if_neg hb).symm.trans e
      by_cases h2 : b = a
      · exact .inr ⟨h2, hk, (Option.some.inj ((if_pos h2).symm.trans e2)).symm⟩
      · cases (if_neg h2).symm.trans e2
section
variable {P : Program} {w : World} {K : PySem.W.Frag} {h : Heap} {a : Addr} {vs : List Value} {ns : List Int} {ts : List Addr} {H : Hp}
theorem Begin.holds (B : Begin K a vs ns ts H) (ha : h.get? a = some (scrO vs)) (hi : IntsAre vs ns) (hl : ns.length ≤ sizeLine) (hT : ∀ b ∈ ts, h.get? b = some tabO) : HOk P w H h := by
  intro b u e
  rcases B.cas b u e with ⟨hb, rfl⟩ | ⟨rfl, _, rfl⟩
  · exact hT b hb
  · exact ⟨ha, by rw [List.length_map]; exact hl, vs, _, vals_ints hi, ha⟩
/-- an object that is neither a table nor the script's list is not tracked -/
theorem Begin.off (B : Begin K a vs ns ts H) (ha : h.get? a = some (scrO vs)) (hT : ∀ b ∈ ts, h.get? b = some tabO) {b : Addr} {o : Obj} (e : h.get? b = some o) (h1 : o ≠ tabO) (h2 : o ≠ scrO vs) : H b = none := by
  cases q : H b with
  | none => rfl
  | some u =>
    rcases B.cas b u q with ⟨hb, _⟩ | ⟨rfl, _, _⟩
    · exact absurd (Option.some.inj (e.symm.trans (hT b hb))) h1
    · exact absurd (Option.some.inj (e.symm.trans ha)) h2
theorem Begin.kin (B : Begin K a vs ns ts H) (KX : K.In h) (nT : ∀ b ∈ ts, K.lookup b = none) : K.In (hidT h H) := by
  intro b o e
  refine hidT_get (KX b o e) ?_
  cases q : H b with
  | none => rfl
  | some u =>
    rcases B.cas b u q with ⟨hb, _⟩ | ⟨rfl, hk, _⟩
    · rw [nT b hb] at e
      cases e
    · rw [hk] at e
      cases e
theorem Begin.nsAt (B : Begin K a vs ns ts H) (ha : h.get? a = some (scrO vs)) (hT : ∀ b ∈ ts, h.get? b = some tabO) {b : Addr} {m : Str → Option Value} (n : h.Ns b m) : (hidT h H).Ns b m := by
  obtain ⟨o, es, ep, e, d, r⟩ := n
  refine ⟨o, es, ep, hidT_get e (B.off ha hT e ?_ ?_), d, r⟩
  · rintro rfl
    cases d
  · rintro rfl
    cases d
end
/-- what is known of the law's promise behind the top -/
def LawG (l : PySem.W.OpenLaw) (w : World) (K : PySem.W.Frag) (k n : Nat) (x : Str) (mg : Str → Option Value) (fa : Addr) (h : Heap) : Prop :=
  ∃ (fd : FuncData) (cs : List (Addr × Addr)) (sp : Sp), (∀ p ∈ cs, h.get? p.2 = some tabO) ∧ (∀ p ∈ cs, K.lookup p.2 = none) ∧ (∀ p ∈ cs, PySem.W.CodeHd h p.1 p.2) ∧ (∀ (s : Shared) (u : Value), BindsTo s fd ⟨[u], []⟩ [(x, u)]) ∧
    (∀ (H : Hp) (a : Addr) (ns : List Int), ns.length ≤ n → (∀ z ∈ ns, Builtin.Int.intBits z ≤ 1048576) → (∀ p ∈ cs, H p.2 = some (.tbl #[])) → SqL K H a (ns.map V.int) → sp [.ref a] H (fun v _ => v = .bl true) E0) ∧
    ∀ base : Heap, K.In base → base.Ns mainGlobals mg → (∀ p ∈ cs, LamX.TabB base mg p.1 p.2) → FnG l.prog w K mg base k fa fd [x] sp
theorem walkG {l : PySem.W.OpenLaw} {n k : Nat} {q : Program} {loose : List Str} {XP : (Str → Option Value) → Heap → Prop} {YP : World → Heap → Prop} {d : DefRec} {K : Params → PySem.W.Frag} {x : Str}
    (hn : l.most = some n) (hn2 : n ≤ sizeLine) (hdf : d.params.defaults = []) (hr : Room k callerA) (hY : ∀ (w : World) (h : Heap), YP w h → (K w.params).In h)
    (F : ∀ (w : World) (mg : Str → Option Value) (fa : Addr) (h : Heap), YP w h → (K w.params).In h → h.Ns mainGlobals mg → mg d.name = some (.ref fa) → LawG l w (K w.params) k n x mg fa h) :
    PySem.W.WalkO q loose XP YP l.row.toRowW d [] (fun f vs => PySem.call f vs) := by
  refine Att.attach_callB hn hdf fun w s0 s1 mg mb fa o pm cd doc a vs ns G Y ho hd hcd hmg ha hi hlen hbits hg => ?_
  have KX := hY w _ Y
  obtain ⟨fd, cs, sp, hT, nT, hC, hb, hsp, hF⟩ := F w mg fa _ Y KX G.T.g hmg
  have hl : ns.length ≤ sizeLine := Nat.le_trans hlen hn2
  have hTs : ∀ b ∈ cs.map (·.2), s1.heap.get? b = some tabO := by
    intro b hb
    obtain ⟨p, hp, rfl⟩ := List.mem_map.mp hb
    exact hT p hp
  have nTs : ∀ b ∈ cs.map (·.2), (K w.params).lookup b = none := by
    intro b hb
    obtain ⟨p, hp, rfl⟩ := List.mem_map.mp hb
    exact nT p hp
  have na : a ∉ cs.map (·.2) := by
    intro z
    cases ha.symm.trans (hTs a z)
  obtain ⟨H, B⟩ := begin_ex KX ha hi hl na
  have hok : HOk l.prog w H s1.heap := B.holds ha hi hl hTs
  have kin := B.kin KX nTs
  have gns := B.nsAt ha hTs G.T.g
  have tabs : ∀ p ∈ cs, H p.2 = some (.tbl #[]) := fun p hp => B.tab _ (List.mem_map.mpr ⟨p, hp, rfl⟩)
  have hM : Mod (K w.params) mg (hidT s1.heap H) := ⟨kin, gns, ⟨mb, B.nsAt ha hTs G.T.b, G.T.builtins⟩, let ⟨mc, h1, h2⟩ := G.T.nolimit; ⟨mc, B.nsAt ha hTs h1, h2⟩⟩
  have TB : ∀ p ∈ cs, LamX.TabB (hidT s1.heap H) mg p.1 p.2 := by
    intro p hp
    obtain ⟨oc, us, file, tf, flags, tg, inF, text, tt, e1, r1, r2, r3, r4, r5, r6, r7, r8, hne⟩ := hC p hp
    obtain ⟨bm, ob, b1, b2, b3, b4, b5, b6⟩ := G.T.bmain
    obtain ⟨og, es, ep, eg, dg, _⟩ := G.T.g
    refine ⟨⟨oc, us, file, tf, flags, tg, inF, text, tt, hidT_get e1 (B.off ha hTs e1 ?_ ?_), r1, r2, r3, r4, r5, r6, r7, r8, hne⟩, ⟨bm, ob, b1, b2, ?_, ?_, hidT_get b3 (B.off ha hTs b3 ?_ ?_), b4, b5, b6⟩, ?_⟩
    · rintro rfl
      cases r2
      simp at r3
    · rintro rfl
      cases r2
    · rintro rfl
      cases b3.symm.trans eg
      rw [b6] at dg
      cases dg
    · rintro rfl
      cases b3.symm.trans (hT p hp)
      cases b6
    · rintro rfl
      cases b6
    · rintro rfl
      cases b6
    · intro z
      rw [z] at eg
      cases eg.symm.trans (hT p hp)
      cases dg
  have e0 : Env0 l.prog w (K w.params) mg (hidT s1.heap H) callerA [] s1 H :=
    ⟨rfl, hM, fun b o e => of_hidT e, Nat.le_of_eq (hidT_size _ _), trivial, fun b hb => absurd (show b ∈ ([] : List Addr) from hb) (by simp), hok, .of_eq hg⟩
  refine codeAny_mono ((hF _ kin gns TB).run callerA [] s1 H ⟨[.ref a], []⟩ [.ref a] [.ref a] _ _ hr rfl e0 (hb s1 (.ref a)) (.cons rfl .nil) (hsp H a ns hlen hbits tabs B.scr)) fun r s2 hq => ?_
  match r, hq with
  | .error e, hq => exact (show False from hq).elim
  | .ok .next, hq => exact False.elim hq
  | .ok .brk, hq => exact False.elim hq
  | .ok .cont, hq => exact False.elim hq
  | .ok (.ret u), hq =>
    obtain ⟨v, H2, os, bare, un, hok2, rv, ev⟩ := hq
    obtain rfl : v = .bl true := ev
    obtain rfl : u = Value.bool true := rv
    have grown : ∀ b ∈ cs.map (·.2), ∃ more : Array Value, s2.heap.get? b = some { cls := .none, data := .fields more } := by
      intro b hb
      obtain ⟨more, z⟩ := un.tbls b #[] (B.tab b hb)
      exact ⟨_, hok2 b _ z⟩
    have same : ∀ b o, b ∉ cs.map (·.2) → s1.heap.get? b = some o → s2.heap.get? b = some o := by
      intro b o nb e
      cases qh : H b with
      | none => exact un.keep b o e qh (by intro z; exact absurd (show b ∈ ([] : List Addr) from z) (by simp)) (by simp)
      | some u =>
        rcases B.cas b u qh with ⟨hb, _⟩ | ⟨rfl, _, rfl⟩
        · exact absurd hb nb
        · have z2 := un.frzs b _ _ qh
          obtain ⟨e2, _⟩ := hok2 b _ z2
          cases e.symm.trans ha
          exact e2
    refine ⟨rfl, ⟨fun b o e => ?_, fun b o e => ?_⟩, os, bare⟩
    · by_cases hb : b ∈ cs.map (·.2)
      · obtain ⟨more, hm⟩ := grown b hb
        obtain ⟨p, hp, rfl⟩ := List.mem_map.mp hb
        cases e.symm.trans (hT p hp)
        exact .inr (.inl ⟨((hC p hp).tab (hT p hp)).isCodeTable, rfl, #[], more, rfl, by rw [Array.empty_append]; exact hm⟩)
      · exact .inl (same b o hb e)
    · by_cases hb : b ∈ cs.map (·.2)
      · obtain ⟨more, hm⟩ := grown b hb
        exact ⟨_, hm⟩
      · exact ⟨o, same b o hb e⟩
end L2.My
/-! == and != of a text with data of any kind; of lists with the empty one; great powers -/
namespace PySem.SeqAt
open MeetsSeq
open AutoSeq1 (wpAny_loadPart')
theorem dict_eq_no_str (l : Addr) (es : Array DictEntry) (n : Nat) (dd : Option Addr) (sl : Array (Option Value)) (b : Str) (u : Tok) :
    Meets (Builtin.«dict.__eq__» ⟨[.ref l, .str b u], []⟩) (fun _ R s => s.heap.get? l = some { cls := .type "dict", dict := dd, data := .dict es n, slots := sl } ∧ R (.ok (.ret .notImplemented)) s) :=
  .of_wp fun prog w A R s h => by
    obtain ⟨hp, g, d, tk, os⟩ := s
    obtain ⟨hl, h⟩ := h
    have f1 := F.sub_str_dict
    wp_walk using wpAny_loadPart' hl
    exact ⟨_, rfl, h⟩
theorem dict_ne_no_str (l : Addr) (es : Array DictEntry) (n : Nat) (dd : Option Addr) (sl : Array (Option Value)) (b : Str) (u : Tok) :
    Meets (Builtin.«dict.__ne__» ⟨[.ref l, .str b u], []⟩) (fun _ R s => s.heap.get? l = some { cls := .type "dict", dict := dd, data := .dict es n, slots := sl } ∧ R (.ok (.ret .notImplemented)) s) :=
  .of_wp fun prog w A R s h => by
    obtain ⟨hp, g, d, tk, os⟩ := s
    obtain ⟨hl, h⟩ := h
    have f1 := F.sub_str_dict
    wp_walk using wpAny_loadPart' hl
    exact ⟨_, rfl, h⟩
theorem str_eq_no_dict (b : Str) (u : Tok) (l : Addr) (es : Array DictEntry) (n : Nat) (dd : Option Addr) (sl : Array (Option Value)) :
    Meets (Builtin.«str.__eq__» ⟨[.str b u, .ref l], []⟩) (fun _ R s => s.heap.get? l = some { cls := .type "dict", dict := dd, data := .dict es n, slots := sl } ∧ R (.ok (.ret .notImplemented)) s) :=
  .of_wp fun prog w A R s h => by
    obtain ⟨hp, g, d, tk, os⟩ := s
    obtain ⟨hl, h⟩ := h
    wp_walk using wpAny_loadPart' hl, wpAny_load hl
    exact ⟨_, rfl, h⟩
theorem str_ne_no_dict (b : Str) (u : Tok) (l : Addr) (es : Array DictEntry) (n : Nat) (dd : Option Addr) (sl : Array (Option Value)) :
    Meets (Builtin.«str.__ne__» ⟨[.str b u, .ref l], []⟩) (fun _ R s => s.heap.get? l = some { cls := .type "dict", dict := dd, data := .dict es n, slots := sl } ∧ R (.ok (.ret .notImplemented)) s) :=
  .of_wp fun prog w A R s h => by
    obtain ⟨hp, g, d, tk, os⟩ := s
    obtain ⟨hl, h⟩ := h
    wp_walk using wpAny_loadPart' hl, wpAny_load hl
    exact ⟨_, rfl, h⟩
section
variable {A : Around} {s : Shared}
theorem RcAt.dict_str {l : Addr} {es : Array DictEntry} {n : Nat} {dd : Option Addr} {sl : Array (Option Value)} (b : Str) (u : Tok) (ho : s.heap.get? l = some { cls := .type "dict", dict := dd, data := .dict es n, slots := sl }) (hu : A.units < cLine) : RcAt A s (.ref l) (.str b u) false :=
  fun prog w E Q h => rc_eq_decline_or (k := false) ⟨_, ho, rfl⟩ (typeIs_str s b u) (by decide) F.sub_str_dict F.slot_dict_eq F.slot_str_eq_refl
    (fun _ hq => call_meets F.slot_dict_eq ⟨_, ho, rfl⟩ F.entry_dict_eq (F.args_dict_eq_2 _ _) (dict_eq_no_str l es n dd sl b u) ⟨ho, hq⟩)
    (fun _ hq => call_meets F.slot_str_eq_refl (typeIs_str s b u) F.entry_str_eq (F.args_str_eq_2 _ _) (str_eq_no_dict b u l es n dd sl) ⟨ho, hq⟩)
    (fun _ hq => wpAny_of_eq (rfl : isSame (.ref l) (.str b u) = pure false) hq) (.inr hu) h
theorem RcNeAt.dict_str {l : Addr} {es : Array DictEntry} {n : Nat} {dd : Option Addr} {sl : Array (Option Value)} (b : Str) (u : Tok) (ho : s.heap.get? l = some { cls := .type "dict", dict := dd, data := .dict es n, slots := sl }) (hu : A.units < cLine) : RcNeAt A s (.ref l) (.str b u) true :=
  fun prog w E Q h => rc_ne_decline_or (k := false) ⟨_, ho, rfl⟩ (typeIs_str s b u) (by decide) F.sub_str_dict F.slot_dict_ne F.slot_str_ne_refl
    (fun _ hq => call_meets F.slot_dict_ne ⟨_, ho, rfl⟩ F.entry_dict_ne (F.args_dict_ne_2 _ _) (dict_ne_no_str l es n dd sl b u) ⟨ho, hq⟩)
    (fun _ hq => call_meets F.slot_str_ne_refl (typeIs_str s b u) F.entry_str_ne (F.args_str_ne_2 _ _) (str_ne_no_dict b u l es n dd sl) ⟨ho, hq⟩)
    (fun _ hq => wpAny_of_eq (rfl : isSame (.ref l) (.str b u) = pure false) hq) (.inr hu) h
end
end PySem.SeqAt
namespace L2.My
open PySem PySem.Spec PyProof.Rows
/-- a value as a text sees it: the text that it is, or none -/
inductive AsText (H : Hp) : V → Option Str → Prop
  | str (z : Str) : AsText H (.str z) (some z)
  | non : AsText H .non none
  | bl (b : Bool) : AsText H (.bl b) none
  | int (i : Int) : AsText H (.int i) none
  | lst {a : Addr} {xs : List V} (e : H a = some (.lst xs)) : AsText H (.ref a) none
  | tup {a : Addr} {xs : List V} (e : H a = some (.tup xs)) : AsText H (.ref a) none
  | dic {a : Addr} {kvs : List (Key × V)} (e : H a = some (.dK kvs)) : AsText H (.ref a) none
section
variable {X : Cx} {pins : List (Addr × Obj)} {σ : L2.St} {H : Hp} {s : Shared}
theorem dict_get (I : Inv X pins σ H s) {a : Addr} {kvs : List (Key × V)} (e : H a = some (.dK kvs)) : ∃ dd es n sl, s.heap.get? a = some { cls := .type "dict", dict := dd, data := .dict es n, slots := sl } := by
  obtain ⟨_, _, vs, _, o, es, ep, h1, h2, h3, _⟩ := (show ObjOk X.prog X.w H s.heap a (.dK kvs) from I.hok a _ e)
  obtain ⟨oc, od, dt, sl⟩ := o
  obtain ⟨c1, _⟩ := h2
  simp only at c1 h3
  subst c1 h3
  exact ⟨od, es, ep, sl, h1⟩
def rEqX : R2 := fun x y H Q => ∃ k z, y = .str z ∧ AsText H x k ∧ Q (.bl (decide (k = some z))) H
def rNeX : R2 := fun x y H Q => ∃ k z, y = .str z ∧ AsText H x k ∧ Q (.bl (!decide (k = some z))) H
theorem some_eq (a b : Str) : decide ((some a : Option Str) = some b) = (a == b) := by
  by_cases e : a = b
  · subst e
    simp
  · simp [e]
theorem op_eqX (hu : X.A.units < cLine) : OpR X (compareOp .Eq) rEqX := by
  intro pins s σ H x y v u Q I rx ry h
  obtain ⟨k, z, rfl, tx, q⟩ := h
  obtain ⟨t, rfl⟩ := ry
  have done : ∀ b : Bool, decide (k = some z) = b → EP X pins σ Q (.bool b) s := fun b e => ⟨.bl b, H, I, rfl, e ▸ q⟩
  cases tx with
  | str z' =>
    obtain ⟨t', rfl⟩ := rx
    exact SeqAt.RcAt.str_str z' t' z t _ _ _ _ (done _ (some_eq z' z))
  | non =>
    cases rx
    exact SeqAt.RcAt.none_str z t _ _ _ _ (done _ (by simp))
  | bl b =>
    cases rx
    exact SeqAt.RcAt.bool_str b z t _ _ _ _ (done _ (by simp))
  | int i =>
    obtain ⟨t', rfl⟩ := rx
    exact SeqAt.RcAt.int_str i t' z t _ _ _ _ (done _ (by simp))
  | @lst a xs e =>
    cases rx
    obtain ⟨_, its, n, _, h1⟩ := (show ObjOk X.prog X.w H s.heap a (.lst xs) from I.hok a _ e)
    exact SeqAt.RcAt.list_str z t ⟨_, h1, rfl, n, rfl⟩ hu _ _ _ _ (done _ (by simp))
  | @tup a xs e =>
    cases rx
    obtain ⟨_, its, _, o, h1, h2, n, h3⟩ := (show ObjOk X.prog X.w H s.heap a (.tup xs) from I.hok a _ e)
    exact SeqAt.RcAt.tuple_str z t ⟨_, h1, h2, n, h3⟩ hu _ _ _ _ (done _ (by simp))
  | @dic a kvs e =>
    cases rx
    obtain ⟨dd, es, n, sl, h1⟩ := dict_get I e
    exact SeqAt.RcAt.dict_str z t h1 hu _ _ _ _ (done _ (by simp))
theorem op_neX (hu : X.A.units < cLine) : OpR X (compareOp .NotEq) rNeX := by
  intro pins s σ H x y v u Q I rx ry h
  obtain ⟨k, z, rfl, tx, q⟩ := h
  obtain ⟨t, rfl⟩ := ry
  have done : ∀ b : Bool, (!decide (k = some z)) = b → EP X pins σ Q (.bool b) s := fun b e => ⟨.bl b, H, I, rfl, e ▸ q⟩
  cases tx with
  | str z' =>
    obtain ⟨t', rfl⟩ := rx
    exact SeqAt.RcNeAt.str_str z' t' z t _ _ _ _ (done _ (by rw [some_eq z' z]))
  | non =>
    cases rx
    exact SeqAt.RcNeAt.none_str z t _ _ _ _ (done _ (by simp))
  | bl b =>
    cases rx
    exact SeqAt.RcNeAt.bool_str b z t _ _ _ _ (done _ (by simp))
  | int i =>
    obtain ⟨t', rfl⟩ := rx
    exact SeqAt.RcNeAt.int_str i t' z t _ _ _ _ (done _ (by simp))
  | @lst a xs e =>
    cases rx
    obtain ⟨_, its, n, _, h1⟩ := (show ObjOk X.prog X.w H s.heap a (.lst xs) from I.hok a _ e)
    exact SeqAt.RcNeAt.list_str z t ⟨_, h1, rfl, n, rfl⟩ hu _ _ _ _ (done _ (by simp))
  | @tup a xs e =>
    cases rx
    obtain ⟨_, its, _, o, h1, h2, n, h3⟩ := (show ObjOk X.prog X.w H s.heap a (.tup xs) from I.hok a _ e)
    exact SeqAt.RcNeAt.tuple_str z t ⟨_, h1, h2, n, h3⟩ hu _ _ _ _ (done _ (by simp))
  | @dic a kvs e =>
    cases rx
    obtain ⟨dd, es, n, sl, h1⟩ := dict_get I e
    exact SeqAt.RcNeAt.dict_str z t h1 hu _ _ _ _ (done _ (by simp))
/-- xs == [] -/
def rEqNil : R2 := fun x y H Q => ∃ a b xs, x = .ref a ∧ y = .ref b ∧ H a = some (.lst xs) ∧ H b = some (.lst []) ∧ Q (.bl xs.isEmpty) H
theorem op_eqNil (hu : X.A.units < cLine) : OpR X (compareOp .Eq) rEqNil := by
  intro pins s σ H x y v u Q I rx ry h
  obtain ⟨a, b, xs, rfl, rfl, ea, eb, q⟩ := h
  cases rx
  cases ry
  obtain ⟨_, its, n, r1, h1⟩ := (show ObjOk X.prog X.w H s.heap a (.lst xs) from I.hok a _ ea)
  obtain ⟨_, its2, n2, r2, h2⟩ := (show ObjOk X.prog X.w H s.heap b (.lst []) from I.hok b _ eb)
  cases r2
  have la : s.heap.IsList a its.toArray := ⟨_, h1, rfl, n, rfl⟩
  have lb : s.heap.IsList b #[] := ⟨_, h2, rfl, n2, rfl⟩
  cases r1 with
  | nil => exact SeqAt.RcAt.lists (e := fun _ => true) la lb rfl hu (fun j h1 _ => absurd h1 (by simp)) _ _ _ _ ⟨.bl true, H, I, rfl, q⟩
  | cons r t => exact SeqAt.RcAt.lists_lengths la lb (by simp) hu _ _ _ _ ⟨.bl false, H, I, rfl, q⟩
/-- t != () -/
def rNeUnit : R2 := fun x y H Q => ∃ a b xs, x = .ref a ∧ y = .ref b ∧ H a = some (.tup xs) ∧ H b = some (.tup []) ∧ Q (.bl (!xs.isEmpty)) H
theorem op_neUnit (hu : X.A.units < cLine) : OpR X (compareOp .NotEq) rNeUnit := by
  intro pins s σ H x y v u Q I rx ry h
  obtain ⟨a, b, xs, rfl, rfl, ea, eb, q⟩ := h
  cases rx
  cases ry
  obtain ⟨_, its, r1, o, h1, h2, n, h3⟩ := (show ObjOk X.prog X.w H s.heap a (.tup xs) from I.hok a _ ea)
  obtain ⟨_, its2, r2, o2, g1, g2, n2, g3⟩ := (show ObjOk X.prog X.w H s.heap b (.tup []) from I.hok b _ eb)
  cases r2
  have la : s.heap.IsTuple a its.toArray := ⟨_, h1, h2, n, h3⟩
  have lb : s.heap.IsTuple b #[] := ⟨_, g1, g2, n2, g3⟩
  refine SeqAt.RcNeAt.tuples (e := fun _ => true) la lb hu (fun j _ h2 => absurd h2 (by simp)) _ _ _ _ ?_
  cases r1 with
  | nil => exact ⟨.bl false, H, I, rfl, q⟩
  | cons r t => exact ⟨.bl true, H, I, by simp [RelV], q⟩
/-- a great power -/
def CPowW (i j : Int) : Prop := 0 ≤ j ∧ (Builtin.Int.intBits i : Int) * j ≤ 2 ^ 27
theorem op_powW : OpR X (binaryOp .Pow) (rI CPowW fun i j => .int (i ^ j.toNat)) := opI fun _ _ _ _ _ _ _ hc q => pow_int hc.1 hc.2 q
end
end L2.My
/-! a tuple of any data compared with a tuple of one text -/
namespace L2.My
open PySem PySem.Spec PyProof.Rows
section
variable {A : Around} {s : Shared}
/-- what == tells of a text, where the two are not the same object -/
theorem eqAt_of {x : Value} {z : Str} {t : Tok} {k : Bool} (ne : x ≠ .str z t) (h : SeqAt.RcAt A s x (.str z t) k) : SeqAt.EqAt A s x (.str z t) k := fun prog w E Q q => by
  unfold eqBool
  refine wpAny_holding (wpAny_ite_split (fun c => absurd (eq_of_beq c) ne) fun _ => ?_)
  cases x <;> exact wpAny_bind (h prog w E _ (wpAny_truthy_bool q))
end
section
variable {X : Cx} {pins : List (Addr × Obj)} {σ : L2.St} {H : Hp} {s : Shared}
/-- one item against a text -/
theorem item_text (I : Inv X pins σ H s) {v : V} {u : Value} {k : Option Str} (r : RelV v u) (t : AsText H v k) (z : Str) (tk : Tok) {A : Around} (hu : A.units < cLine) : SeqAt.EqAt A s u (.str z tk) (decide (k = some z)) := by
  cases t with
  | str z' =>
    obtain ⟨t', rfl⟩ := r
    rw [some_eq]
    exact SeqAt.EqAt.str_str z' t' z tk
  | non =>
    cases r
    exact eqAt_of (by intro e; cases e) (SeqAt.RcAt.none_str z tk)
  | bl b =>
    cases r
    exact eqAt_of (by intro e; cases e) (SeqAt.RcAt.bool_str b z tk)
  | int i =>
    obtain ⟨t', rfl⟩ := r
    exact eqAt_of (by intro e; cases e) (SeqAt.RcAt.int_str i t' z tk)
  | @lst a xs e =>
    cases r
    obtain ⟨_, its, n, _, h1⟩ := (show ObjOk X.prog X.w H s.heap a (.lst xs) from I.hok a _ e)
    exact eqAt_of (by intro e; cases e) (SeqAt.RcAt.list_str z tk ⟨_, h1, rfl, n, rfl⟩ hu)
  | @tup a xs e =>
    cases r
    obtain ⟨_, its, _, o, h1, h2, n, h3⟩ := (show ObjOk X.prog X.w H s.heap a (.tup xs) from I.hok a _ e)
    exact eqAt_of (by intro e; cases e) (SeqAt.RcAt.tuple_str z tk ⟨_, h1, h2, n, h3⟩ hu)
  | @dic a kvs e =>
    cases r
    obtain ⟨dd, es, n, sl, h1⟩ := dict_get I e
    exact eqAt_of (by intro e; cases e) (SeqAt.RcAt.dict_str z tk h1 hu)
/-- the tuple is (z,) -/
def isTag : List (Option Str) → Str → Bool
  | [k], z => decide (k = some z)
  | _, _ => false
/-- items as a text sees them -/
inductive Texts (H : Hp) : List V → List (Option Str) → Prop
  | nil : Texts H [] []
  | cons {v : V} {k : Option Str} {vs : List V} {ks : List (Option Str)} (t : AsText H v k) (r : Texts H vs ks) : Texts H (v :: vs) (k :: ks)
def rEqTag : R2 := fun x y H Q => ∃ a b xs ks z, x = .ref a ∧ y = .ref b ∧ H a = some (.tup xs) ∧ H b = some (.tup [.str z]) ∧ Texts H xs ks ∧ Q (.bl (isTag ks z)) H
theorem op_eqTag (hu : X.A.units + 1 < cLine) : OpR X (compareOp .Eq) rEqTag := by
  intro pins s σ H x y v u Q I rx ry h
  obtain ⟨a, b, xs, ks, z, rfl, rfl, ea, eb, tx, q⟩ := h
  cases rx
  cases ry
  obtain ⟨_, its, r1, o, h1, h2, n, h3⟩ := (show ObjOk X.prog X.w H s.heap a (.tup xs) from I.hok a _ ea)
  obtain ⟨_, its2, r2, o2, g1, g2, n2, g3⟩ := (show ObjOk X.prog X.w H s.heap b (.tup [.str z]) from I.hok b _ eb)
  have la : s.heap.IsTuple a its.toArray := ⟨_, h1, h2, n, h3⟩
  cases r2 with
  | @cons _ w _ ws rz rn =>
    cases rn
    obtain ⟨tk, rfl⟩ := rz
    have lb : s.heap.IsTuple b #[.str z tk] := ⟨_, g1, g2, n2, g3⟩
    refine SeqAt.RcAt.tuples (e := fun _ => isTag [ks.headD none] z) la lb (Nat.lt_of_succ_lt hu) (fun j j1 j2 => ?_) _ _ _ _ ?_
    · have j0 : j = 0 := by
        have : j < 1 := j2
        omega
      subst j0
      cases r1 with
      | nil => exact absurd j1 (by simp)
      | @cons v w vs ws r t =>
        cases tx with
        | cons t0 tr => exact item_text I r t0 z tk hu
    · cases r1 with
      | nil =>
        cases tx
        exact ⟨.bl false, H, I, rfl, q⟩
      | @cons v w vs ws r t =>
        cases tx with
        | @cons _ k _ kr t0 tr =>
          cases t with
          | nil =>
            cases tr
            exact ⟨.bl _, H, I, by simp [RelV, List.range_succ], q⟩
          | cons r' t' =>
            cases tr
            exact ⟨.bl false, H, I, by simp [RelV], q⟩
end
end L2.My
/-! repr of an empty dict -/
namespace L2.My
open PySem PySem.Spec PyProof.Rows
section
variable {X : Cx} {pins : List (Addr × Obj)} {σ : L2.St} {H : Hp} {s : Shared}
theorem dict_nil (I : Inv X pins σ H s) {a : Addr} (e : H a = some (.dK [])) : (a == sysModules) = false ∧ ∃ o n, s.heap.get? a = some o ∧ o.cls = .type "dict" ∧ o.data = .dict #[] n := by
  obtain ⟨_, q0, vs, q1, o, es, ep, h1, h2, h3, h4⟩ := (show ObjOk X.prog X.w H s.heap a (.dK []) from I.hok a _ e)
  cases q1
  have z : es = #[] := by
    have p := h4.2.1
    have p2 : es.toList = [] := by
      cases q : es.toList with
      | nil => rfl
      | cons x r =>
        rw [q] at p
        cases p
    exact Array.ext' p2
  subst z
  exact ⟨q0, o, ep, h1, h2.1, h3⟩
/-- repr(d) of an empty dict -/
def rReprNil : List V → Hp → VK → Prop := fun xs H Q => ∃ a, xs = [.ref a] ∧ H a = some (.dK []) ∧ Q (.str "{}") H
theorem call_reprNil (gd : X.A.guards = some []) (hu : X.A.units + 70 < cLine) : CallR X (.builtin "repr") rReprNil := by
  intro pins s σ H xs us Q I r h
  obtain ⟨a, rfl, e, q⟩ := h
  obtain ⟨ne, o, n, h1, h2, h3⟩ := dict_nil I e
  cases r with
  | cons ra rn =>
    cases rn
    cases ra
    have rd : Reads s.heap (.ref a) (.dict []) ([a] ++ []) := .dict h1 h2 h3 (by simpa using ReadsAll.nil) (by simpa using ReadsAll.nil)
    refine repr_of_reads' rd (by rfl) (fun _ hm => ?_) gd (by show X.A.units + (_ + 1) < cLine; have : (PyData.dict []).depth = 1 := rfl; omega) (fun _ _ e => e) (fun h' t tk hk => ?_) (by decide +kernel)
    · have hm2 : sysModules = a := by simpa using hm
      rw [hm2] at ne
      simp at ne
    · have z : (PyData.dict []).shown = "{}" := by decide +kernel
      rw [z]
      exact ⟨.str _, H, I.kept (t' := tk) hk, ⟨t, rfl⟩, q⟩
end
end L2.My
/-! enumerate(tuple) -/
namespace PySem
open Sem (wp)
open AutoSeq1 (wpAny_loadPart')
theorem meets_enumerate_newT (l : Addr) (items : Array Value) :
    Meets (Builtin.«enumerate.__new__» ⟨[.type "enumerate", .ref l], []⟩) (fun _ R s => s.heap.IsTuple l items ∧
      R (.ok (.ret (.ref (s.heap.push { cls := .type "tuple_iterator", data := .fields #[.ref l, .int 0 0] }).objs.size)))
        { s with heap := (s.heap.push { cls := .type "tuple_iterator", data := .fields #[.ref l, .int 0 0] }).push { cls := .type "enumerate", data := .fields #[.none, .bool false, .ref s.heap.objs.size, rawInt 0, .none, .none] } }) :=
  .of_wp fun prog w A R s h => by
    obtain ⟨hp, g, d, tk, os⟩ := s; obtain ⟨hl, h⟩ := h
    have hsub := sub_enumerate
    have q1 : ∀ {A' : Around} {E : Value → Shared → Prop} {Q : Value → Shared → Prop}, Q (.ref hp.objs.size) ⟨hp.push { cls := .type "tuple_iterator", data := .fields #[.ref l, .int 0 0] }, g, d, tk, os⟩ → wpAny (model prog w) A' (pyIter (.ref l)) Q E ⟨hp, g, d, tk, os⟩ :=
      fun q => wpAny_pyIter_tuple (s := ⟨hp, g, d, tk, os⟩) hl q
    wp_walk using q1
    refine wpAny_stack_any fun st => wpAny_pure ?_
    split
    · rename_i c _ _ _ _ _
      cases (c == Value.type "enumerate")
      · wp_walk using q1
        exact ⟨_, rfl, h⟩
      · wp_walk using q1
        exact ⟨_, rfl, h⟩
    · wp_walk using q1
      exact ⟨_, rfl, h⟩
section
variable {prog : Program} {w : World} {A : Around} {E : Value → Shared → Prop} {s : Shared}
theorem call_enumerate_tuple {l : Addr} {items : Array Value} {Q : Value → Shared → Prop} (hL : s.heap.IsTuple l items)
    (h : ∀ h', IsEnum h' (s.heap.objs.size + 1) s.heap.objs.size 0 .none → h'.IsTupleIter s.heap.objs.size l 0 → h'.objs.size = s.heap.objs.size + 2 →
      (∀ b o, s.heap.get? b = some o → h'.get? b = some o) → Q (.ref (s.heap.objs.size + 1)) { s with heap := h' }) :
    wpAny (model prog w) A (call (.type "enumerate") [.ref l]) Q E s := by
  refine callType_new F.called_enumerate (by decide) (F.typeCall_enumerate_1 _) (F.newCall_enumerate_1 _) (fun obj => F.args_object_init_2 obj _) F.entry_enumerate_new
    (meets_enumerate_newT l items) ⟨hL, ?_⟩
  have hz : (s.heap.push { cls := .type "tuple_iterator", data := .fields #[.ref l, .int 0 0] }).objs.size = s.heap.objs.size + 1 := Heap.size_push ..
  show _ ∧ _
  rw [hz]
  have he : IsEnum ((s.heap.push { cls := .type "tuple_iterator", data := .fields #[.ref l, .int 0 0] }).push
      { cls := .type "enumerate", data := .fields #[.none, .bool false, .ref s.heap.objs.size, rawInt 0, .none, .none] }) (s.heap.objs.size + 1) s.heap.objs.size 0 .none := by
    have := Heap.get?_push_size (s.heap.push { cls := .type "tuple_iterator", data := .fields #[.ref l, .int 0 0] })
      (o := { cls := .type "enumerate", data := .fields #[.none, .bool false, .ref s.heap.objs.size, rawInt 0, .none, .none] }) rfl
    rw [hz] at this; exact this
  refine ⟨⟨_, he, rfl⟩, h _ he ⟨_, Heap.get?_push_of_some _ (Heap.get?_push_size _ rfl), rfl, rfl⟩ (by rw [Heap.size_push, hz]) fun b o x => Heap.get?_push_of_some _ (Heap.get?_push_of_some _ x)⟩
end
end PySem
namespace L2.My
open PySem PySem.Spec PyProof.Rows L2
/-- the tuple at a, each item in a new pair -/
def Iet (K : PySem.W.Frag) (a : Addr) : It :=
  ⟨fun i H => ∃ (xs : List V) (x : V), SqT K H a xs ∧ xs[i]? = some x, fun i H v H' => ∃ T x, v = .ref T ∧ H T = none ∧ H' = upd H T (.tup [.int (i : Nat), x]) ∧ ∀ xs, SqT K H a xs → xs[i]? = some x, fun i H => ∃ xs : List V, SqT K H a xs ∧ xs.length = i⟩
theorem enum_ne {h : Heap} {e it a : Addr} {i : Int} {old : Value} {items : Array Value} (he : IsEnum h e it i old) (ha : h.IsTuple a items) : e ≠ a := by
  intro z
  subst z
  obtain ⟨o, ho, hc, _⟩ := ha
  have he' : h.get? e = some _ := he
  rw [he'] at ho
  cases ho
  exact absurd (show Value.type "enumerate" = Value.type "tuple" from hc) (by decide)
theorem tit_ne {h : Heap} {it a : Addr} {i : Nat} {items : Array Value} (hi : h.IsTupleIter it a i) (ha : h.IsTuple a items) : a ≠ it := by
  intro z
  subst z
  obtain ⟨o, ho, hc, _⟩ := ha
  obtain ⟨o2, ho2, hc2, _⟩ := hi
  rw [ho] at ho2
  cases ho2
  rw [hc] at hc2
  exact absurd hc2 (by decide)
theorem turn_enumT {P : Program} {w : World} {K : PySem.W.Frag} {elts : List Expr} {kk : Nat} {tpos : Pos} (a e it : Addr) :
    Turn P w K (.Tuple elts kk tpos) (Iet K a) [e, it] e (fun i h => (∃ old, IsEnum h e it ((i : Nat) : Int) old) ∧ h.IsTupleIter it a i ∧ e ≠ it) where
  mem := by simp
  obj := fun i h st b hb => by
    obtain ⟨⟨old, he⟩, ⟨o, ho, hc, hd⟩, _⟩ := st
    have e' : b = e ∨ b = it := by simpa using hb
    rcases e' with z | z
    · rw [z]; exact ⟨_, he, fun v q => nomatch q⟩
    · rw [z]; exact ⟨o, ho, fun v q => by rw [hd] at q; cases q⟩
  keep := fun i h h' st k => let ⟨⟨old, he⟩, hi, hne⟩ := st; ⟨⟨old, k e (by simp) _ he⟩, hi.at fun o q => k it (by simp) o q, hne⟩
  item := by
    intro X hP hw hK hc i pins s σ H E I hf st hg
    subst hP hw hK
    obtain ⟨⟨old, he⟩, hit, hne⟩ := st
    obtain ⟨xs, x, hq, hx⟩ := hg
    obtain ⟨its, rv, p, hz⟩ := I.tuple hq
    have p2 : s.heap.IsTuple a its.toArray := p
    obtain ⟨u, hu, ru⟩ := rv.get hx
    have hel : e < s.heap.objs.size := Heap.lt_size he
    have hil : it < s.heap.objs.size := by obtain ⟨_, q, _⟩ := hit; exact Heap.lt_size q
    have hlt : i < its.toArray.size := by
      have : its[i]? = some u := hu
      obtain ⟨z, _⟩ := List.getElem?_eq_some_iff.mp this
      simpa using z
    refine wpAny_pyNext_enum_itemD (Draws.tuple (A := X.A.in1) (I.ok.hd hc) it a (tit_ne hit p2) its.toArray) he ⟨hit, p2⟩ hlt hne (fun z => ?_) fun v h' tk hv ho st' hT hsz hk => ?_
    · simp only [List.mem_cons, List.not_mem_nil, or_false] at z
      rcases z with z | z
      · exact hne z
      · exact enum_ne he p2 z
    have hvu : v = u := by
      have h1 : its.toArray[i]? = some v := hv
      have h2 : its.toArray[i]? = some u := by simpa using hu
      rw [h1] at h2
      exact Option.some.inj h2
    subst hvu
    refine ⟨_, rfl, wpAny_letOwnedTupleGo_enum (s := { s with heap := h', toks := tk + 1 }) ho fun h'' he' sb => ?_⟩
    have hT2 : h''.get? s.heap.objs.size = some { cls := .type "tuple", data := .seq #[.int i tk, v] } := (sb.2 _ (Nat.ne_of_gt hel)).trans hT
    have new : ObjOk X.prog X.w (upd H s.heap.objs.size (.tup [.int (i : Nat), x])) h'' s.heap.objs.size (.tup [.int (i : Nat), x]) :=
      ⟨by show 2 ≤ sizeLine; decide, [.int i tk, v], .cons ⟨_, rfl⟩ (.cons ru .nil), ⟨_, hT2, rfl, _, rfl⟩⟩
    have I1 : Inv X pins σ (upd H s.heap.objs.size (.tup [.int (i : Nat), x])) { s with heap := h'', toks := tk + 1 } :=
      I.turnedNew (ch := [e, it]) (fun b ob hb q => (sb.2 b (fun z => hb (by simp [z]))).trans (hk b ob (fun z => hb (by simp [z])) (fun z => hb (by simp [z])) q)) hf (Nat.le_refl _) new
    refine ⟨.ref s.heap.objs.size, _, I1, rfl, ⟨_, x, rfl, I.hok.fresh (Nat.le_refl _), rfl, fun ys hy => by rw [I.tuple_inj hy hq]; exact hx⟩, ⟨⟨v, ?_⟩, st'.1.at fun o q => (sb.2 it (Ne.symm hne)).trans q, hne⟩, fun b hb => ?_⟩
    · have e1 : ((i + 1 : Nat) : Int) = (i : Int) + 1 := by omega
      rw [e1]; exact he'
    · have hb' : b < s.heap.objs.size := by
        have e' : b = e ∨ b = it := by simpa using hb
        rcases e' with z | z
        · rw [z]; exact hel
        · rw [z]; exact hil
      rw [upd_ne (Nat.ne_of_lt hb')]
      exact (hf b hb).1
  done := by
    intro X hP hw hK hc i pins s σ H E I hf st hg
    subst hP hw hK
    obtain ⟨⟨old, he⟩, hit, hne⟩ := st
    obtain ⟨xs, hq, hx⟩ := hg
    obtain ⟨its, rv, p, hz⟩ := I.tuple hq
    have p2 : s.heap.IsTuple a its.toArray := p
    obtain ⟨f0, f1, f2, f3, f4, f5⟩ := hf it (by simp)
    have hl := rv.length
    have hn : i = its.toArray.size := by
      rw [List.size_toArray]
      omega
    subst hn
    exact wpAny_pyNext_enum_endD (Draws.tuple (A := X.A.in1) (I.ok.hd hc) it a (tit_ne hit p2) its.toArray) he ⟨hit, p2⟩ fun h' eb => ⟨rfl, I.turned (t' := s.toks) (fun b o hb e => eb b o hb e) f0 f1 f3 f4 f5⟩
  self := fun A i s Q E st h => let ⟨⟨_, he⟩, _⟩ := st; wpAny_pyIter_enum he h
def iEnumT (K : PySem.W.Frag) (ta : TA) : TI := fun σ H R => ta σ H fun vs H1 => ∃ a xs, vs = [.ref a] ∧ SqT K H1 a xs ∧ R (Iet K a) H1
theorem pi_enumT {X : Cx} {e : Expr} {ta : TA} {p pos tpos : Pos} {elts : List Expr} {kk : Nat} (hg : Gl X "enumerate") (hm : X.mg "enumerate" = none) (ha : PA X [e] ta) (hs : starEach [e] X.env = [(false, eval e X.env)] := by rfl) :
    PI X (.Tuple elts kk tpos) (.Call (.Name "enumerate" p) [e] [] pos) (iEnumT X.K ta) := by
  refine ⟨fun pins s σ H R I h => ?_⟩
  refine Call_ (ld_blt I hg hm boot_enumerate (PyProof.Rows.callWith_type1 (thn (ha.run pos pins s σ H _ I h) fun us s1 ⟨vs, H1, I1, r1, q1⟩ => ?_) hs rfl))
  obtain ⟨a, xs, ex, hq, q⟩ := q1
  subst ex
  cases r1 with
  | cons r rr =>
    cases rr
    cases r
    obtain ⟨its, rv, p', hz⟩ := I1.tuple hq
    refine call_enumerate_tuple (show s1.heap.IsTuple a its.toArray from p') fun h' he hit hsz hk => wpAny_pyIter_enum he ?_
    have I2 : Inv X pins σ H1 { s1 with heap := h' } := I1.kept (t' := s1.toks) hk
    refine ⟨s1.heap.objs.size + 1, [s1.heap.objs.size + 1, s1.heap.objs.size], _, _, H1, rfl, I2, turn_enumT a (s1.heap.objs.size + 1) s1.heap.objs.size, ⟨⟨.none, he⟩, hit, Nat.succ_ne_self _⟩, fun b hb => ?_, q⟩
    have e' : b = s1.heap.objs.size + 1 ∨ b = s1.heap.objs.size := by simpa using hb
    have hle : s1.heap.objs.size ≤ b := by
      rcases e' with z | z
      · rw [z]; exact Nat.le_add_right _ _
      · rw [z]; exact Nat.le_refl _
    exact I1.fpOk hle (I1.hok.fresh hle)
theorem walk_enumT {K : PySem.W.Frag} {a : Addr} {xs : List V} : Walk (Iet K a) xs.length (fun H => SqT K H a xs) (YPair (fun i => some (.int (i : Nat))) (fun i => xs[i]?)) := by
  refine ⟨fun i _ hi q => ⟨xs, xs[i], q, by simp [hi]⟩, fun _ q => ⟨xs, q, rfl⟩, fun i H v H' _ q y => ?_⟩
  obtain ⟨T, x, h1, h2, h3, h4⟩ := y
  exact ⟨T, .int (i : Nat), x, h1, h2, h3, rfl, h4 xs q⟩
end L2.My
/-! zip of two tuples walked; < of data; in a tuple of one-text tuples; repr of data or of an empty dict -/
namespace PySem.SeqAt
section
variable {A : Around} {s : Shared}
theorem RcAt.str_dict (b : Str) (u : Tok) {l : Addr} {es : Array DictEntry} {n : Nat} {dd : Option Addr} {sl : Array (Option Value)} (ho : s.heap.get? l = some { cls := .type "dict", dict := dd, data := .dict es n, slots := sl }) (hu : A.units < cLine) : RcAt A s (.str b u) (.ref l) false :=
  fun prog w E Q h => rc_eq_decline_or (k := false) (typeIs_str s b u) ⟨_, ho, rfl⟩ (by decide) F.sub_dict_str F.slot_str_eq_refl F.slot_dict_eq
    (fun _ hq => call_meets F.slot_str_eq_refl (typeIs_str s b u) F.entry_str_eq (F.args_str_eq_2 _ _) (str_eq_no_dict b u l es n dd sl) ⟨ho, hq⟩)
    (fun _ hq => call_meets F.slot_dict_eq ⟨_, ho, rfl⟩ F.entry_dict_eq (F.args_dict_eq_2 _ _) (dict_eq_no_str l es n dd sl b u) ⟨ho, hq⟩)
    (fun _ hq => wpAny_of_eq (rfl : isSame (.str b u) (.ref l) = pure false) hq) (.inr hu) h
theorem eqAt_back {x : Value} {z : Str} {t : Tok} {k : Bool} (ne : x ≠ .str z t) (h : SeqAt.RcAt A s (.str z t) x k) : SeqAt.EqAt A s (.str z t) x k := fun prog w E Q q => by
  unfold eqBool
  refine wpAny_holding (wpAny_ite_split (fun c => absurd (eq_of_beq c).symm ne) fun _ => ?_)
  cases x <;> exact wpAny_bind (h prog w E _ (wpAny_truthy_bool q))
end
end PySem.SeqAt
namespace L2.My
open PySem PySem.Spec PyProof.Rows L2
section
variable {K : PySem.W.Frag} {a b : Addr} {xs ys : List V}
theorem walk_zipT {n : Nat} (hn : n = min xs.length ys.length) : Walk (RZ.ItzT K a b) n (fun H => SqT K H a xs ∧ SqT K H b ys) (YPair (fun i => xs[i]?) (fun i => ys[i]?)) := by
  refine ⟨fun i H hi q => ?_, fun H q => ⟨xs, ys, q.1, q.2, by omega⟩, fun i H v H' _ q y => ?_⟩
  · obtain ⟨x, hx⟩ : ∃ x, xs[i]? = some x := ⟨_, List.getElem?_eq_getElem (by omega)⟩
    obtain ⟨y, hy⟩ : ∃ y, ys[i]? = some y := ⟨_, List.getElem?_eq_getElem (by omega)⟩
    exact ⟨xs, ys, x, y, q.1, q.2, hx, hy⟩
  · obtain ⟨T, x, z, h1, h2, h3, h4, h5⟩ := y
    exact ⟨T, x, z, h1, h2, h3, h4 xs q.1, h5 ys q.2⟩
end
section
variable {X : Cx} {pins : List (Addr × Obj)} {σ : L2.St} {H : Hp} {s : Shared}
/-- x < y, both data -/
def rLtD (K : PySem.W.Frag) : R2 := fun x y H Q => ∃ d e, Dp K H x d ∧ Dp K H y e ∧ PySem.W.alike d e = true ∧ d ≠ .none ∧ d.depth ≤ 60 ∧ Q (.bl (PySem.W.dataLt d e)) H
theorem op_ltD (hu : X.A.units + 64 < cLine) : OpR X (compareOp .Lt) (rLtD X.K) := by
  intro pins s σ H x y v u Q I rx ry h
  obtain ⟨d, e, hd, he, al, ne, dp, q⟩ := h
  obtain ⟨as, r1⟩ := Dp.reads I d x v hd rx
  obtain ⟨bs, r2⟩ := Dp.reads I e y u he ry
  exact PySem.W.lt_data r1 r2 al ne (by have := Nat.min_le_left d.depth e.depth; omega) ⟨.bl _, H, I, rfl, q⟩
/-- a text against an item -/
theorem text_item (I : Inv X pins σ H s) {v : V} {u : Value} {k : Option Str} (r : RelV v u) (t : AsText H v k) (z : Str) (tk : Tok) {A : Around} (hu : A.units < cLine) : SeqAt.EqAt A s (.str z tk) u (decide (k = some z)) := by
  cases t with
  | str z' =>
    obtain ⟨t', rfl⟩ := r
    have e : decide (some z' = some z) = (z == z') := by
      rw [some_eq]
      by_cases c : z' = z
      · subst c
        simp
      · rw [beq_eq_false_iff_ne.mpr c, beq_eq_false_iff_ne.mpr fun q => c q.symm]
    rw [e]
    exact SeqAt.EqAt.str_str z tk z' t'
  | non =>
    cases r
    exact SeqAt.eqAt_back (by intro e; cases e) (SeqAt.RcAt.str_none z tk)
  | bl b =>
    cases r
    exact SeqAt.eqAt_back (by intro e; cases e) (SeqAt.RcAt.str_bool z tk b)
  | int i =>
    obtain ⟨t', rfl⟩ := r
    exact SeqAt.eqAt_back (by intro e; cases e) (SeqAt.RcAt.str_int z tk i t')
  | @lst a xs e =>
    cases r
    obtain ⟨_, its, n, _, h1⟩ := (show ObjOk X.prog X.w H s.heap a (.lst xs) from I.hok a _ e)
    exact SeqAt.eqAt_back (by intro e; cases e) (SeqAt.RcAt.str_list z tk ⟨_, h1, rfl, n, rfl⟩ hu)
  | @tup a xs e =>
    cases r
    obtain ⟨_, its, _, o, h1, h2, n, h3⟩ := (show ObjOk X.prog X.w H s.heap a (.tup xs) from I.hok a _ e)
    exact SeqAt.eqAt_back (by intro e; cases e) (SeqAt.RcAt.str_tuple z tk ⟨_, h1, h2, n, h3⟩ hu)
  | @dic a kvs e =>
    cases r
    obtain ⟨dd, es, n, sl, h1⟩ := dict_get I e
    exact SeqAt.eqAt_back (by intro e; cases e) (SeqAt.RcAt.str_dict z tk h1 hu)
/-- t in ((z,), ..), t a tuple -/
def rInTags : R2 := fun x y H Q => ∃ a b xs ks ts zs, x = .ref a ∧ y = .ref b ∧ H a = some (.tup xs) ∧ H b = some (.tup (ts.map V.ref)) ∧ Texts H xs ks ∧ List.length ts = List.length zs ∧ (∀ p ∈ ts.zip zs, H p.1 = some (.tup [.str p.2])) ∧ Q (.bl (zs.any (isTag ks))) H
theorem tagV (I : Inv X pins σ H s) {a t : Addr} {xs : List V} {ks : List (Option Str)} {z : Str} (ea : H a = some (.tup xs)) (et : H t = some (.tup [.str z])) (tx : Texts H xs ks) {A : Around} (hu : A.units + 1 < cLine) : SeqAt.EqAt A s (.ref t) (.ref a) (isTag ks z) := by
  obtain ⟨_, its, r1, o, h1, h2, n, h3⟩ := (show ObjOk X.prog X.w H s.heap a (.tup xs) from I.hok a _ ea)
  obtain ⟨_, its2, r2, o2, g1, g2, n2, g3⟩ := (show ObjOk X.prog X.w H s.heap t (.tup [.str z]) from I.hok t _ et)
  have la : s.heap.IsTuple a its.toArray := ⟨_, h1, h2, n, h3⟩
  cases r2 with
  | @cons _ w _ ws rz rn =>
    cases rn
    obtain ⟨tk, rfl⟩ := rz
    have lb : s.heap.IsTuple t #[.str z tk] := ⟨_, g1, g2, n2, g3⟩
    by_cases same : t = a
    · subst same
      rw [ea] at et
      cases et
      cases tx with
      | cons t0 tr =>
        cases tr
        cases t0
        have z1 : isTag [some z] z = true := by simp [isTag]
        rw [z1]
        exact SeqAt.EqAt.same _
    have core : SeqAt.RcAt A s (.ref t) (.ref a) (isTag ks z) := by
      have c := SeqAt.RcAt.tuples (e := fun _ => isTag [ks.headD none] z) (A := A) lb la (Nat.lt_of_succ_lt hu) (fun j j1 j2 => ?_)
      · have e : ((List.range (min (#[Value.str z tk] : Array Value).size its.toArray.size)).all (fun _ => isTag [ks.headD none] z) && (#[Value.str z tk] : Array Value).size == its.toArray.size) = isTag ks z := by
          cases r1 with
          | nil =>
            cases tx
            simp [isTag]
          | @cons v w vs ws r t =>
            cases tx with
            | @cons _ k _ kr t0 tr =>
              cases t with
              | nil =>
                cases tr
                simp [List.range_succ]
              | cons r' t' =>
                cases tr
                simp [isTag]
        rw [e] at c
        exact c
      · have j0 : j = 0 := by
          have : j < 1 := j1
          omega
        subst j0
        cases r1 with
        | nil => exact absurd j2 (by simp)
        | @cons v w vs ws r t =>
          cases tx with
          | cons t0 tr => exact text_item I r t0 z tk hu
    exact SeqAt.EqAt.of_refs same core
theorem op_inTags (hu : X.A.units + 2 < cLine) : OpR X (compareOp .In) rInTags := by
  intro pins s σ H x y v u Q I rx ry h
  obtain ⟨a, b, xs, ks, ts, zs, rfl, rfl, ea, eb, tx, ll, et, q⟩ := h
  cases rx
  cases ry
  obtain ⟨_, its, r1, o, h1, h2, n, h3⟩ := (show ObjOk X.prog X.w H s.heap b (.tup (ts.map V.ref)) from I.hok b _ eb)
  have its_ : its = ts.map Value.ref := by
    clear eb h3 et ll
    revert r1
    generalize ts = ts
    intro r1
    induction ts generalizing its with
    | nil =>
      cases r1
      rfl
    | cons t ts ih =>
      cases r1 with
      | cons r rr =>
        cases r
        rw [ih _ rr]
        rfl
  subst its_
  have lb : s.heap.IsTuple b (ts.map Value.ref).toArray := ⟨_, h1, h2, n, h3⟩
  let e : Value → Bool := fun v => match v with
    | .ref t => (match (ts.zip zs).find? fun p => p.1 == t with
      | some p => isTag ks p.2
      | none => false)
    | _ => false
  have he : ∀ p ∈ ts.zip zs, e (.ref p.1) = isTag ks p.2 := fun p hp => by
    show (match (ts.zip zs).find? fun q => q.1 == p.1 with
      | some p => isTag ks p.2
      | none => false) = _
    cases f : (ts.zip zs).find? fun q => q.1 == p.1 with
    | none => exact absurd (List.find?_eq_none.mp f p hp) (by simp)
    | some q' =>
      have m := List.mem_of_find?_eq_some f
      have c : q'.1 = p.1 := by
        have z := List.find?_some f
        simpa using z
      have e1 := et q' m
      have e2 := et p hp
      rw [c, e2] at e1
      injection e1 with e1
      injection e1 with e1
      injection e1 with e1 _
      injection e1 with e1
      show isTag ks q'.2 = _
      rw [e1]
  refine SeqAt.in_tupleAt e lb (fun w hw => ?_) ⟨.bl _, H, I, rfl, ?_⟩
  · obtain ⟨t, ht, rfl⟩ := List.mem_map.mp (by simpa using hw : w ∈ ts.map Value.ref)
    obtain ⟨j, hj⟩ := List.mem_iff_getElem?.mp ht
    obtain ⟨z, hz⟩ : ∃ z, zs[j]? = some z := by
      obtain ⟨l, _⟩ := List.getElem?_eq_some_iff.mp hj
      exact ⟨_, List.getElem?_eq_getElem (ll ▸ l)⟩
    have hp : (t, z) ∈ ts.zip zs := List.mem_iff_getElem?.mpr ⟨j, by rw [List.getElem?_zip_eq_some]; exact ⟨hj, hz⟩⟩
    rw [he _ hp]
    exact tagV I ea (et _ hp) tx (A := X.A.in1) (by show X.A.in1.units + 1 < cLine; have z : X.A.in1.units ≤ X.A.units + 1 := by simp [Around.in1]
                                                    omega)
  · have z : (ts.map Value.ref).toArray.any e = zs.any (isTag ks) := by
      rw [List.any_toArray]
      clear eb h3 lb h1 h2 r1
      have key : ∀ (ts : List Addr) (zs : List Str), ts.length = zs.length → (∀ p ∈ ts.zip zs, e (.ref p.1) = isTag ks p.2) → (ts.map Value.ref).any e = zs.any (isTag ks) := by
        intro ts
        induction ts with
        | nil =>
          intro zs l _
          cases zs with
          | nil => rfl
          | cons _ _ => cases l
        | cons t ts ih =>
          intro zs l h
          cases zs with
          | nil => cases l
          | cons z zs =>
            rw [List.map_cons, List.any_cons, List.any_cons, h (t, z) (by simp), ih zs (Nat.succ.inj l) fun p hp => h p (by rw [List.zip_cons_cons]; exact List.mem_cons_of_mem _ hp)]
      exact key ts zs ll he
    rw [z]
    exact q
/-- repr of data, or of an empty dict -/
theorem call_reprE (gd : X.A.guards = some []) (hu : X.A.units + 70 < cLine) : CallR X (.builtin "repr") (fun xs H Q => rRepr X.K xs H Q ∨ rReprNil xs H Q) := by
  intro pins s σ H xs us Q I r h
  rcases h with h | h
  · exact call_repr gd hu pins s σ H xs us Q I r h
  · exact call_reprNil gd hu pins s σ H xs us Q I r h
end
end L2.My
/-! displays of written things and names, in one piece; data that is known to have a short repr -/
namespace L2.My
open PySem PySem.Spec PyProof.Rows L2
/-- a written display; v k: the value of slot k -/
inductive Lit where
  | s (z : Str)
  | i (n : Int)
  | b (k : Bool)
  | n
  | v (k : Nat)
  | t (xs : List Lit)
  | l (xs : List Lit)
mutual
def Lit.ok (σ : L2.St) : Lit → Prop
  | .v k => ∃ v, σ[k]? = some (some v)
  | .t xs => xs.length ≤ 1000 ∧ Lit.okA σ xs
  | .l xs => xs.length ≤ 1000 ∧ Lit.okA σ xs
  | .s _ => True
  | .i _ => True
  | .b _ => True
  | .n => True
def Lit.okA (σ : L2.St) : List Lit → Prop
  | [] => True
  | x :: xs => Lit.ok σ x ∧ Lit.okA σ xs
end
mutual
/-- v is what the display gives, all of its objects new since H0 -/
inductive LitAt (σ : L2.St) (H0 H : Hp) : V → Lit → Prop
  | s (z : Str) : LitAt σ H0 H (.str z) (.s z)
  | i (n : Int) : LitAt σ H0 H (.int n) (.i n)
  | b (k : Bool) : LitAt σ H0 H (.bl k) (.b k)
  | n : LitAt σ H0 H .non .n
  | v {k : Nat} {u : V} (e : σ[k]? = some (some u)) : LitAt σ H0 H u (.v k)
  | t {a : Addr} {vs : List V} {xs : List Lit} (n : H0 a = none) (e : H a = some (.tup vs)) (h : LitAll σ H0 H vs xs) : LitAt σ H0 H (.ref a) (.t xs)
  | l {a : Addr} {vs : List V} {xs : List Lit} (n : H0 a = none) (e : H a = some (.lst vs)) (h : LitAll σ H0 H vs xs) : LitAt σ H0 H (.ref a) (.l xs)
inductive LitAll (σ : L2.St) (H0 H : Hp) : List V → List Lit → Prop
  | nil : LitAll σ H0 H [] []
  | cons {u : V} {x : Lit} {vs : List V} {xs : List Lit} (h : LitAt σ H0 H u x) (r : LitAll σ H0 H vs xs) : LitAll σ H0 H (u :: vs) (x :: xs)
end
theorem same_none {H0 H1 : Hp} (s : Same H0 H1) {a : Addr} (n : H1 a = none) : H0 a = none := by
  cases q : H0 a with
  | none => rfl
  | some o =>
    rw [s a o q] at n
    cases n
mutual
theorem LitAt.mono {σ : L2.St} {H0 H1 H H' : Hp} (s0 : Same H0 H1) (s : Same H H') : ∀ {u : V} {x : Lit}, LitAt σ H1 H u x → LitAt σ H0 H' u x
  | _, _, .s z => .s z
  | _, _, .i n => .i n
  | _, _, .b k => .b k
  | _, _, .n => .n
  | _, _, .v e => .v e
  | _, _, .t n e h => .t (same_none s0 n) (s _ _ e) (LitAll.mono s0 s h)
  | _, _, .l n e h => .l (same_none s0 n) (s _ _ e) (LitAll.mono s0 s h)
theorem LitAll.mono {σ : L2.St} {H0 H1 H H' : Hp} (s0 : Same H0 H1) (s : Same H H') : ∀ {vs : List V} {xs : List Lit}, LitAll σ H1 H vs xs → LitAll σ H0 H' vs xs
  | _, _, .nil => .nil
  | _, _, .cons h r => .cons (LitAt.mono s0 s h) (LitAll.mono s0 s r)
end
theorem LitAll.len {σ : L2.St} {H0 H : Hp} : ∀ {vs : List V} {xs : List Lit}, LitAll σ H0 H vs xs → vs.length = xs.length
  | _, _, .nil => rfl
  | _, _, .cons _ r => by rw [List.length_cons, List.length_cons, r.len]
def tLit (x : Lit) : TE := fun σ H Q => Lit.ok σ x ∧ ∀ u H', Same H H' → LitAt σ H H' u x → Q u H'
def tLits (xs : List Lit) : TA := fun σ H Q => Lit.okA σ xs ∧ ∀ us H', Same H H' → LitAll σ H H' us xs → Q us H'
theorem PE.of {X : Cx} {e : Expr} {t t' : TE} (h : PE X e t) (i : ∀ σ H Q, t' σ H Q → t σ H Q) : PE X e t' := ⟨fun pins s σ H Q I q => h.run pins s σ H Q I (i σ H Q q)⟩
theorem PA.of {X : Cx} {es : List Expr} {t t' : TA} (h : PA X es t) (i : ∀ σ H Q, t' σ H Q → t σ H Q) : PA X es t' := ⟨fun pos pins s σ H Q I q => h.run pos pins s σ H Q I (i σ H Q q)⟩
section
variable {X : Cx}
theorem pl_int {i : Int} {j pos} : PE X (.Constant (.int i) j pos) (tLit (.i i)) := PE.of pe_int fun _ H _ q => q.2 _ H (Same.refl H) (.i _)
theorem pl_neg {i : Int} {j pos pos2} : PE X (.UnaryOp .USub (.Constant (.int i) j pos) pos2) (tLit (.i (-i))) := PE.of (pe_un un_neg pe_int) fun _ H _ q => ⟨_, rfl, q.2 _ H (Same.refl H) (.i _)⟩
theorem pl_bl {k : Bool} {j pos} : PE X (.Constant (.bool k) j pos) (tLit (.b k)) := PE.of pe_bl fun _ H _ q => q.2 _ H (Same.refl H) (.b _)
theorem pl_non {j pos} : PE X (.Constant .none j pos) (tLit .n) := PE.of pe_non fun _ H _ q => q.2 _ H (Same.refl H) .n
theorem pl_str {z : Str} {j pos} : PE X (.Constant (.str z) j pos) (tLit (.s z)) := PE.of pe_str fun _ H _ q => q.2 _ H (Same.refl H) (.s _)
theorem pl_v (k : Nat) {e : Expr} (h : PE X e (tVar k)) : PE X e (tLit (.v k)) := PE.of h fun σ H Q q => by
  obtain ⟨v, e⟩ : ∃ v, σ[k]? = some (some v) := by
    have z := q.1
    rw [Lit.ok] at z
    exact z
  exact ⟨v, e, q.2 v H (Same.refl H) (.v e)⟩
theorem pl_nil : PA X [] (tLits []) := PA.of pa_nil fun _ H _ q => q.2 [] H (Same.refl H) .nil
theorem pl_cons {e : Expr} {es : List Expr} {x : Lit} {xs : List Lit} (h : PE X e (tLit x)) (r : PA X es (tLits xs)) (hs : starEach (e :: es) X.env = (false, eval e X.env) :: starEach es X.env := by rfl) : PA X (e :: es) (tLits (x :: xs)) :=
  PA.of (pa_cons h r hs) fun σ H Q q => by
    obtain ⟨ok, k⟩ := q
    rw [Lit.okA] at ok
    exact ⟨ok.1, fun u H1 s1 a1 => ⟨ok.2, fun us H2 s2 a2 => k (u :: us) H2 (s1.trans s2) (.cons (a1.mono (Same.refl _) s2) (a2.mono s1 (Same.refl _)))⟩⟩
theorem line1000 : 1000 ≤ sizeLine := by decide
theorem pl_tup {es : List Expr} {xs : List Lit} {x1 pos} (h : PA X es (tLits xs)) : PE X (.Tuple es x1 pos) (tLit (.t xs)) := PE.of (pe_tup h) fun σ H Q q => by
  obtain ⟨ok, k⟩ := q
  rw [Lit.ok] at ok
  refine ⟨ok.2, fun us H1 s1 a1 => ⟨?_, fun p np => k _ _ (s1.trans fun b u e => ?_) (.t (same_none s1 np) upd_same (a1.mono (Same.refl _) fun b u e => ?_))⟩⟩
  · rw [a1.len]
    exact Nat.le_trans ok.1 line1000
  · rw [upd_ne (ne_of_none e np)]
    exact e
  · rw [upd_ne (ne_of_none e np)]
    exact e
theorem pl_lst {es : List Expr} {xs : List Lit} {pos} (h : PA X es (tLits xs)) : PE X (.List es pos) (tLit (.l xs)) := PE.of (pe_lst h) fun σ H Q q => by
  obtain ⟨ok, k⟩ := q
  rw [Lit.ok] at ok
  refine ⟨ok.2, fun us H1 s1 a1 => ⟨?_, fun p np => k _ _ (s1.trans fun b u e => ?_) (.l (same_none s1 np) upd_same (a1.mono (Same.refl _) fun b u e => ?_))⟩⟩
  · rw [a1.len]
    exact Nat.le_trans ok.1 line1000
  · rw [upd_ne (ne_of_none e np)]
    exact e
  · rw [upd_ne (ne_of_none e np)]
    exact e
end
/-! ### data with a bound on its repr -/
/-- none of its lists and tuples stands at p; at most N items each, n levels, a repr of at most c signs -/
inductive Dv (H : Hp) (p : Addr) (N : Nat) : Nat → Nat → V → Prop
  | non {n c : Nat} (hc : 40 ≤ c) : Dv H p N n c .non
  | bl {n c : Nat} (b : Bool) (hc : 40 ≤ c) : Dv H p N n c (.bl b)
  | int {n c : Nat} (i : Int) (h : i.natAbs < 10 ^ 39) (g : (PyData.int i).shown.length ≤ 40) (hc : 40 ≤ c) : Dv H p N n c (.int i)
  | str {n c : Nat} (z : Str) (h : z.length ≤ 100) (g : (PyData.str z).shown.length ≤ 40) (hc : 40 ≤ c) : Dv H p N n c (.str z)
  | tup {n b c : Nat} {a : Addr} {xs : List V} (e : H a = some (.tup xs)) (ap : a ≠ p) (l : xs.length ≤ N) (h : ∀ x ∈ xs, Dv H p N n b x) (hc : 4 + xs.length * (b + 2) ≤ c) : Dv H p N (n + 1) c (.ref a)
  | lst {n b c : Nat} {a : Addr} {xs : List V} (e : H a = some (.lst xs)) (ap : a ≠ p) (l : xs.length ≤ N) (h : ∀ x ∈ xs, Dv H p N n b x) (hc : 4 + xs.length * (b + 2) ≤ c) : Dv H p N (n + 1) c (.ref a)
theorem Dv.wk {H : Hp} {p : Addr} {N M n c : Nat} {v : V} (t : Dv H p N n c v) (hN : N ≤ M) : ∀ {m d : Nat}, n ≤ m → c ≤ d → Dv H p M m d v := by
  induction t with
  | non hc => exact fun _ h => .non (Nat.le_trans hc h)
  | bl b hc => exact fun _ h => .bl b (Nat.le_trans hc h)
  | int i h g hc => exact fun _ k => .int i h g (Nat.le_trans hc k)
  | str z h g hc => exact fun _ k => .str z h g (Nat.le_trans hc k)
  | tup e ap l _ hc ih =>
    intro m d hm hd
    match m, hm with
    | m + 1, hm => exact .tup e ap (Nat.le_trans l hN) (fun x hx => ih x hx (Nat.le_of_succ_le_succ hm) (Nat.le_refl _)) (Nat.le_trans hc hd)
  | lst e ap l _ hc ih =>
    intro m d hm hd
    match m, hm with
    | m + 1, hm => exact .lst e ap (Nat.le_trans l hN) (fun x hx => ih x hx (Nat.le_of_succ_le_succ hm) (Nat.le_refl _)) (Nat.le_trans hc hd)
theorem Dv.keep {H H' : Hp} {p : Addr} {N n c : Nat} {v : V} (t : Dv H p N n c v) (s : ∀ q, q ≠ p → ∀ o, H q = some o → H' q = some o) : Dv H' p N n c v := by
  induction t with
  | non hc => exact .non hc
  | bl b hc => exact .bl b hc
  | int i h g hc => exact .int i h g hc
  | str z h g hc => exact .str z h g hc
  | tup e ap l _ hc ih => exact .tup (s _ ap _ e) ap l ih hc
  | lst e ap l _ hc ih => exact .lst (s _ ap _ e) ap l ih hc
/-- the bound of n levels of at most five items each -/
def fz : Nat → Nat
  | 0 => 40
  | n + 1 => 4 + 5 * (fz n + 2)
theorem fz_up {n m : Nat} (h : n ≤ m) : fz n ≤ fz m := by
  induction h with
  | refl => exact Nat.le_refl _
  | step _ ih => exact Nat.le_trans ih (by show _ ≤ 4 + 5 * (_ + 2); omega)
theorem fz40 : ∀ n, 40 ≤ fz n
  | 0 => Nat.le_refl _
  | n + 1 => by
    have := fz40 n
    show 40 ≤ 4 + 5 * (fz n + 2)
    omega
mutual
/-- at most n levels of at most five items, short ints and texts; g k: the levels of slot k's value -/
def Lit.fit (g : Nat → Option Nat) : Nat → Lit → Bool
  | _, .s z => decide (z.length ≤ 100) && decide ((PyData.str z).shown.length ≤ 40)
  | _, .i k => decide (k.natAbs < 10 ^ 39) && decide ((PyData.int k).shown.length ≤ 40)
  | _, .b _ => true
  | _, .n => true
  | m, .v k => match g k with
    | some j => decide (j ≤ m)
    | none => false
  | 0, .t _ => false
  | 0, .l _ => false
  | m + 1, .t xs => decide (xs.length ≤ 5) && Lit.fits g m xs
  | m + 1, .l xs => decide (xs.length ≤ 5) && Lit.fits g m xs
def Lit.fits (g : Nat → Option Nat) : Nat → List Lit → Bool
  | _, [] => true
  | m, x :: xs => Lit.fit g m x && Lit.fits g m xs
end
mutual
theorem LitAt.dv {σ : L2.St} {H0 H : Hp} {p : Addr} {o : HO} (np : H0 p = some o) {g : Nat → Option Nat} (hg : ∀ k j u, g k = some j → σ[k]? = some (some u) → Dv H p 5 j (fz j) u) : ∀ {m : Nat} {u : V} {x : Lit}, LitAt σ H0 H u x → Lit.fit g m x = true → Dv H p 5 m (fz m) u
  | m, _, _, .s z, f => by
    rw [Lit.fit, Bool.and_eq_true, decide_eq_true_eq, decide_eq_true_eq] at f
    exact .str z f.1 f.2 (fz40 m)
  | m, _, _, .i n, f => by
    rw [Lit.fit, Bool.and_eq_true, decide_eq_true_eq, decide_eq_true_eq] at f
    exact .int n f.1 f.2 (fz40 m)
  | m, _, _, .b k, _ => .bl k (fz40 m)
  | m, _, _, .n, _ => .non (fz40 m)
  | m, _, _, .v (k := k) e, f => by
    rw [Lit.fit] at f
    cases q : g k with
    | none =>
      rw [q] at f
      cases f
    | some j =>
      rw [q] at f
      have jm : j ≤ m := of_decide_eq_true f
      exact (hg k j _ q e).wk (Nat.le_refl _) jm (fz_up jm)
  | 0, _, _, .t n e h, f => by
    rw [Lit.fit] at f
    cases f
  | 0, _, _, .l n e h, f => by
    rw [Lit.fit] at f
    cases f
  | m + 1, _, _, .t (vs := vs) n e h, f => by
    rw [Lit.fit, Bool.and_eq_true, decide_eq_true_eq] at f
    have l : vs.length ≤ 5 := h.len ▸ f.1
    refine .tup e (fun z => by rw [z, np] at n; cases n) l (LitAll.dv np hg h f.2) ?_
    have := Nat.mul_le_mul_right (fz m + 2) l
    show _ ≤ 4 + 5 * (fz m + 2)
    omega
  | m + 1, _, _, .l (vs := vs) n e h, f => by
    rw [Lit.fit, Bool.and_eq_true, decide_eq_true_eq] at f
    have l : vs.length ≤ 5 := h.len ▸ f.1
    refine .lst e (fun z => by rw [z, np] at n; cases n) l (LitAll.dv np hg h f.2) ?_
    have := Nat.mul_le_mul_right (fz m + 2) l
    show _ ≤ 4 + 5 * (fz m + 2)
    omega
theorem LitAll.dv {σ : L2.St} {H0 H : Hp} {p : Addr} {o : HO} (np : H0 p = some o) {g : Nat → Option Nat} (hg : ∀ k j u, g k = some j → σ[k]? = some (some u) → Dv H p 5 j (fz j) u) : ∀ {m : Nat} {vs : List V} {xs : List Lit}, LitAll σ H0 H vs xs → Lit.fits g m xs = true → ∀ u ∈ vs, Dv H p 5 m (fz m) u
  | _, _, _, .nil, _ => fun u hu => by cases hu
  | m, _, _, .cons h r, f => by
    rw [Lit.fits, Bool.and_eq_true] at f
    intro u hu
    rcases List.mem_cons.mp hu with rfl | hu
    · exact LitAt.dv np hg h f.1
    · exact LitAll.dv np hg r f.2 u hu
end
theorem textFrom_up : ∀ (ts : List Str) (k : Nat) (acc : Str), (textFrom k acc ts).length ≤ acc.length + piled ts
  | [], _, acc => Nat.le_add_right _ _
  | t :: ts, k, acc => by
    have h := textFrom_up ts (k + 1) (acc ++ (if k > 0 then ", " else "" : String) ++ t)
    have e : (acc ++ (if k > 0 then ", " else "" : String) ++ t).length ≤ acc.length + 2 + t.length := by
      rw [Str.length_append, Str.length_append]
      split
      · exact Nat.le_refl _
      · exact Nat.add_le_add_right (Nat.add_le_add_left (Nat.zero_le _) _) _
    rw [piled_cons]
    show (textFrom (k + 1) _ ts).length ≤ _
    omega
theorem listText_up (ts : List Str) : (listText ts).length ≤ 2 + piled ts := by
  have h := textFrom_up ts 0 "["
  unfold listText
  rw [Str.length_append]
  have e1 : (("[" : String) : Str).length = 1 := rfl
  have e2 : (("]" : String) : Str).length = 1 := rfl
  omega
theorem tupleText_up (ts : List Str) : (tupleText ts).length ≤ 3 + piled ts := by
  unfold tupleText
  rw [Str.length_append, Str.length_append]
  have e1 : (("(" : String) : Str).length = 1 := rfl
  have e2 : ((if ts.length == 1 then ",)" else ")" : String) : Str).length ≤ 2 := by
    split
    · exact Nat.le_refl _
    · exact Nat.le_succ _
  cases ts with
  | nil =>
    have e3 : (Str.join ", " ([] : List Str)).length = 0 := rfl
    omega
  | cons t r =>
    have := join_length_add (t :: r) (by simp)
    omega
/-- what is told of data -/
structure Told (d : PyData) (n c : Nat) : Prop where
  sh : d.showable = true
  nd : d.hasDict = false
  dp : d.depth ≤ n
  le : d.shown.length ≤ c
theorem Dv.data {K : PySem.W.Frag} {H : Hp} {p : Addr} {N n c : Nat} {v : V} (t : Dv H p N n c v) : ∃ d, Dp K H v d ∧ Told d n c := by
  induction t with
  | non hc => exact ⟨_, .non, by simp [PyData.showable], by simp [PyData.hasDict], by simp [PyData.depth], Nat.le_trans (by decide +kernel) hc⟩
  | bl b hc => exact ⟨_, .bl b, by simp [PyData.showable], by simp [PyData.hasDict], by simp [PyData.depth], Nat.le_trans (by cases b <;> decide +kernel) hc⟩
  | int i h g hc =>
    refine ⟨_, .int i, ?_, by simp [PyData.hasDict], by simp [PyData.depth], Nat.le_trans g hc⟩
    have z : i.natAbs < 2 ^ 130 := Nat.lt_trans h (by decide)
    have z2 : i.natAbs.log2 < 130 := by
      by_cases e : i.natAbs = 0
      · rw [e]
        decide
      · exact (Nat.log2_lt e).mpr z
    rw [PyData.showable]
    exact decide_eq_true (by omega)
  | str z h g hc => exact ⟨_, .str z, by simp [PyData.showable], by simp [PyData.hasDict], by simp [PyData.depth], Nat.le_trans g hc⟩
  | @tup n b c a xs e ap l h hc ih =>
    have all : ∀ ys : List V, (∀ y ∈ ys, y ∈ xs) → ∃ ds, DpAll K H ys ds ∧ PyData.showableAll ds = true ∧ PyData.hasDictAll ds = false ∧ PyData.depthAll ds ≤ n ∧ piled (PyData.shownAll ds) ≤ ys.length * (b + 2) := by
      intro ys
      induction ys with
      | nil => exact fun _ => ⟨[], .nil, by simp [PyData.showableAll], by simp [PyData.hasDictAll], by simp [PyData.depthAll], by simp [PyData.shownAll, piled]⟩
      | cons y ys ihy =>
        intro hy
        obtain ⟨d, h1, h2⟩ := ih y (hy y (List.mem_cons_self ..))
        obtain ⟨ds, g1, g2, g3, g4, g5⟩ := ihy fun z hz => hy z (List.mem_cons_of_mem _ hz)
        refine ⟨d :: ds, .cons h1 g1, by simp [PyData.showableAll, h2.sh, g2], by simp [PyData.hasDictAll, h2.nd, g3], ?_, ?_⟩
        · rw [PyData.depthAll]
          exact Nat.max_le.mpr ⟨h2.dp, g4⟩
        · rw [PyData.shownAll, piled_cons, List.length_cons, Nat.succ_mul]
          have := h2.le
          omega
    obtain ⟨ds, g1, g2, g3, g4, g5⟩ := all xs fun _ h => h
    refine ⟨.tuple ds, .tup (SqT.of e) g1, by simpa [PyData.showable] using g2, by simpa [PyData.hasDict] using g3, ?_, ?_⟩
    · rw [PyData.depth]
      omega
    · rw [PyData.shown]
      have := tupleText_up (PyData.shownAll ds)
      omega
  | @lst n b c a xs e ap l h hc ih =>
    have all : ∀ ys : List V, (∀ y ∈ ys, y ∈ xs) → ∃ ds, DpAll K H ys ds ∧ PyData.showableAll ds = true ∧ PyData.hasDictAll ds = false ∧ PyData.depthAll ds ≤ n ∧ piled (PyData.shownAll ds) ≤ ys.length * (b + 2) := by
      intro ys
      induction ys with
      | nil => exact fun _ => ⟨[], .nil, by simp [PyData.showableAll], by simp [PyData.hasDictAll], by simp [PyData.depthAll], by simp [PyData.shownAll, piled]⟩
      | cons y ys ihy =>
        intro hy
        obtain ⟨d, h1, h2⟩ := ih y (hy y (List.mem_cons_self ..))
        obtain ⟨ds, g1, g2, g3, g4, g5⟩ := ihy fun z hz => hy z (List.mem_cons_of_mem _ hz)
        refine ⟨d :: ds, .cons h1 g1, by simp [PyData.showableAll, h2.sh, g2], by simp [PyData.hasDictAll, h2.nd, g3], ?_, ?_⟩
        · rw [PyData.depthAll]
          exact Nat.max_le.mpr ⟨h2.dp, g4⟩
        · rw [PyData.shownAll, piled_cons, List.length_cons, Nat.succ_mul]
          have := h2.le
          omega
    obtain ⟨ds, g1, g2, g3, g4, g5⟩ := all xs fun _ h => h
    refine ⟨.list ds, .lst (SqL.of e) g1, by simpa [PyData.showable] using g2, by simpa [PyData.hasDict] using g3, ?_, ?_⟩
    · rw [PyData.depth]
      omega
    · rw [PyData.shown]
      have := listText_up (PyData.shownAll ds)
      omega
theorem sameT {K : PySem.W.Frag} {H H' : Hp} {a : Addr} {xs : List V} (s : Same H H') (h : SqT K H a xs) : SqT K H' a xs := by
  rcases h with h | h
  · rcases h with h | ⟨o, h⟩
    · exact .inl (.inl (s _ _ h))
    · exact .inl (.inr ⟨o, s _ _ h⟩)
  · exact .inr h
mutual
theorem Dp.on {K : PySem.W.Frag} {H H' : Hp} (s : Same H H') : ∀ {v : V} {d : PyData}, Dp K H v d → Dp K H' v d
  | _, _, .non => .non
  | _, _, .bl b => .bl b
  | _, _, .int i => .int i
  | _, _, .str x => .str x
  | _, _, .lst h r => .lst (Same.seq s h) (DpAll.on s r)
  | _, _, .tup h r => .tup (sameT s h) (DpAll.on s r)
theorem DpAll.on {K : PySem.W.Frag} {H H' : Hp} (s : Same H H') : ∀ {vs : List V} {ds : List PyData}, DpAll K H vs ds → DpAll K H' vs ds
  | _, _, .nil => .nil
  | _, _, .cons h r => .cons (Dp.on s h) (DpAll.on s r)
end
end L2.My
/-! try: body, several clauses «except C as n», all with one name n -/
namespace L2.My
open PySem PySem.Spec PyProof.Rows
abbrev Suite := Addr → Value → Option Addr → TS
structure Clause where
  cls : Value
  run : Suite
def clr (i : Nat) (D : Ends) : Ends :=
  { nx := fun σ H => D.nx (σ.set i none) H
    rt := D.rt
    bk := fun σ H => D.bk (σ.set i none) H
    ct := fun σ H => D.ct (σ.set i none) H }
/-- what the clauses wish: the first one that takes it runs its suite with the error in slot i -/
def wish (K : PySem.W.Frag) (i : Nat) (out : WX) (D : Ends) : List Clause → WX
  | [] => out
  | k :: r => fun c d σ H => ∃ b, PySem.W.exmOne K c k.cls = some b ∧
      (b = true → ∀ a, H a = none → k.run a c d (clr i D) (σ.set i (some (.ref a))) H) ∧
      (b = false → wish K i out D r c d σ H)
inductive ClOk (X : Cx) (n : Str) : List ExceptHandler → List Clause → Prop
  | nil : ClOk X n [] []
  | cons {x : Str} {c : Value} {ts : Suite} {b0 : Stmt} {bs : List Stmt} {q1 q2 : Pos} {hs : List ExceptHandler} {l : List Clause}
      (named : Names X x c)
      (body : ∀ (a : Addr) (o : Obj) (k : Value) (d : Option Addr) (pn : List (Addr × Obj)), Zc k d o → (∃ v, o.data = .fields v) →
        PSs (X.suite a ((a, o) :: pn)) (b0 :: bs) (ts a k d))
      (more : ClOk X n hs l) :
      ClOk X n (.ExceptHandler (some (.Name x q1)) (some n) (b0 :: bs) q2 :: hs) (⟨c, ts⟩ :: l)
section
variable {X : Cx} {n : Str} {i : Nat} {out : WX} {pins : List (Addr × Obj)} {σ : St} {H : Hp} {D : Ends}
/-- an exception at a that has come down to the try's frame -/
structure Down (X : Cx) (pins : List (Addr × Obj)) (σ : St) (H : Hp) (a : Addr) (B : Heap) (c : Value) (d : Option Addr) (sI t : Shared) : Prop where
  inv : Inv X pins σ H sI
  gr : ∀ b o, sI.heap.get? b = some o → b ∉ frs X.stack → B.get? b = some o
  up : sI.heap.UpToSlots t.heap
  fl : HandSPX.FlyingZ B (X.env :: X.outer) a (Zc c d) t.heap
  nil : H a = none
  os : t.os = sI.os
  bare : AllBare t.gens
/-- the same a few turns of the frames later -/
theorem Down.on {a : Addr} {B h : Heap} {c : Value} {d : Option Addr} {sI t : Shared} (w : Down X pins σ H a B c d sI t)
    (fl : HandSPX.FlyingZ B (X.env :: X.outer) a (Zc c d) h) (up : t.heap.UpToSlots h) : Down X pins σ H a B c d sI { t with heap := h } :=
  ⟨w.inv, w.gr, w.up.trans up, fl, w.nil, w.os, w.bare⟩
/-- the suite's own state -/
theorem Down.held (fr : X.env.frame = some X.env.locals) {a : Addr} {B : Heap} {c : Value} {d : Option Addr} {sI t : Shared} (w : Down X pins σ H a B c d sI t) :
    ∃ o, t.heap.get? a = some o ∧ Zc c d o ∧ (∃ v, o.data = .fields v) ∧ Inv (X.suite a ((a, o) :: (X.pn ++ pins))) [] σ H t ∧ X.K.In t.heap := by
  have J : Inv X pins σ H t := w.inv.landed w.gr w.fl.1 w.up w.os w.bare
  obtain ⟨o, v, eo, z, dv⟩ := w.fl.there
  have apart : a ∉ frs (X.env :: X.outer) := by
    intro hm
    obtain ⟨_, o2, e2, nf⟩ := w.fl.2.2.1.mem hm
    rw [eo] at e2
    cases e2
    exact nf _ dv
  have away : ∀ e ∈ X.env :: X.outer, e.frame ≠ some a := by
    intro e he q
    exact apart (List.mem_filterMap.mpr ⟨e, he, q⟩)
  refine ⟨o, eo, z, ⟨v, dv⟩, J.suite eo dv w.nil ?_ ?_, J.kIn⟩
  · intro q
    exact away _ (List.mem_cons_self ..) (q ▸ fr)
  · intro q
    obtain ⟨e, he, q⟩ := List.mem_filterMap.mp q
    exact away e (List.mem_cons_of_mem _ he) q
/-- no clause takes it: it flies on -/
theorem Down.pass (st : X.stack = X.env :: X.outer) (fr : X.env.frame = some X.env.locals) (tk : Takes X out) {a : Addr} {B : Heap} {c : Value} {d : Option Addr} {sI t : Shared} (w : Down X pins σ H a B c d sI t)
    (q : out c d σ H) : wpAny (model X.prog X.w) X.A (handleBy (.ref a) X.env []) (SP X pins D) X.xe t := by
  obtain ⟨_, _, _, o, v, T, _, _, eo, _, dv, e1, _⟩ := id w.fl
  have go : wpAny (model X.prog X.w) X.A (setFlight (.ref a) X.env.frame)
      (fun _ t2 => wpAny (model X.prog X.w) X.A (throw (.ref a) : Sem Flow) (SP X pins D) X.xe t2) X.xe t := by
    rw [fr]
    refine HandSPX.setFlight_upZ w.fl ?_
    intro h2 held u2
    refine wpAny_throw (tk _ _ ⟨a, B, sI, pins, σ, H, c, d, rfl, w.inv, w.gr, w.up.trans u2, ?_, w.nil, w.os, w.bare, q⟩)
    rw [st]
    exact Or.inr (Or.inr held)
  refine wpAny_handleBy_nil ?_
  unfold PySem.passOn
  refine wpAny_bind (wpAny_field eo dv e1 ?_)
  have nt : ¬ (Value.ref T == Value.none) = true := by simp
  rw [if_neg nt]
  first
    | exact wpAny_bind go
    | exact wpAny_bind (wpAny_pure (wpAny_bind go))
/-- the clauses, one after the other -/
theorem Down.clauses (st : X.stack = X.env :: X.outer) (fr : X.env.frame = some X.env.locals) (nd : X.N.Nodup) (hi : X.N[i]? = some n) (loc : X.env.kindOf n = some .local) (tk : Takes X out)
    {a : Addr} {B : Heap} {c : Value} {d : Option Addr} {sI t : Shared} (w : Down X pins σ H a B c d sI t) {hs : List ExceptHandler} {l : List Clause} (k : ClOk X n hs l) :
    wish X.K i out D l c d σ H → wpAny (model X.prog X.w) X.A (handleBy (.ref a) X.env hs) (SP X pins D) X.xe t := by
  induction k with
  | nil => exact fun q => w.pass st fr tk q
  | @cons x cc ts b0 bs q1 q2 hs l named body more ih =>
    rintro ⟨b, eb, yes, no⟩
    obtain ⟨o, eo, z, _, S, kin⟩ := w.held fr
    have ty : PySem.W.Looks (model X.prog X.w) t.heap (typeOf (.ref a)) c :=
      fun _ _ _ _ k2 q => wpAny_typeOf_ref (k2 _ _ eo) (by rw [z.1]; exact q)
    have said := PySem.W.exm_one (M := model X.prog X.w) kin ty eb
    have ask : ∀ {Q E : Value → Shared → Prop}, Q cc t →
        wpAny (model X.prog X.w) (X.A.mark (some (.ref a))) (eval (.Name x q1) X.env) Q E t := by
      intro Q E q
      rcases named with ⟨gl, db, mine | ⟨no1, bt, no2⟩⟩
      · exact ld_glob S gl mine q db
      · exact ld_blt S gl no1 bt q no2 db
    refine wpAny_handleBy_cons (codeAny_handlers_test (ask (said.here ?_))) (by intro q; cases q)
    cases b with
    | false =>
      show wpAny _ X.A (handleBy (.ref a) X.env hs) _ _ _
      exact ih (no rfl)
    | true =>
      refine codeAny_handlers_suite_as (HandSPX.lands_againZ w.fl fun h2 f2 u2 => ?_)
      obtain ⟨o2, eo2, z2, dv2, S2, _⟩ := (w.on f2 u2).held fr
      have ok := w.inv.ok
      refine store_ok (X := X.suite a ((a, o2) :: (X.pn ++ pins))) (v := .ref a) S2 nd hi (.inl loc) rfl (fun s5 S5 => ?_) (.inr loc)
      refine wpAny_mono ((body a o2 c d (X.pn ++ pins) z2 dv2).run [] s5 _ H _ S5 (yes rfl a w.nil)) ?_ (fun _ _ e => e.elim)
      intro f s6 r
      have away : ∀ {σ6 : St} {H6 : Hp} {Q : Shared → Prop}, Inv (X.suite a ((a, o2) :: (X.pn ++ pins))) [] σ6 H6 s6 →
          (∀ s7, Inv X pins (σ6.set i none) H6 s7 → Q s7) →
          wpAny (model X.prog X.w) X.A (do bindName X.env n .none; unbindBehindTheSuite X.env n q2) (fun _ s7 => Q s7) X.xe s6 :=
        fun S6 q => gone_ok (S6.unsuite ok) nd hi loc q
      cases f with
      | ret u => obtain ⟨v6, σ6, H6, S6, r6, q6⟩ := r; exact away S6 fun _ J => ⟨_, _, _, J, r6, q6⟩
      | next => obtain ⟨σ6, H6, S6, q6⟩ := r; exact away S6 fun _ J => ⟨_, _, J, q6⟩
      | cont => obtain ⟨σ6, H6, S6, q6⟩ := r; exact away S6 fun _ J => ⟨_, _, J, q6⟩
      | brk => obtain ⟨σ6, H6, S6, q6⟩ := r; exact away S6 fun _ J => ⟨_, _, J, q6⟩
/-- THE RULE -/
theorem ps_try_clauses {body : List Stmt} {h0 : ExceptHandler} {hs : List ExceptHandler} {l : List Clause} {tb : WX → TS} {pos : Pos}
    (st : X.stack = X.env :: X.outer) (fr : X.env.frame = some X.env.locals) (nd : X.N.Nodup) (hi : X.N[i]? = some n) (loc : X.env.kindOf n = some .local) (tk : Takes X out)
    (hb : ∀ (W : WX) (pn : List (Addr × Obj)) (xe : Value → Shared → Prop), Takes (X.tr pn xe) W → PassesOwn (model X.prog X.w) X.A X.env xe → PSs (X.tr pn xe) body (tb W))
    (k : ClOk X n (h0 :: hs) l) : PS X (.Try body (h0 :: hs) [] [] pos) (fun D σ H => tb (wish X.K i out D l) D σ H) := by
  refine ⟨fun pins s σ H D I h => wpAny_Try_except ?_⟩
  have ok := I.ok
  have frames : X.A.frames = some (X.env :: X.outer) := ok.frames.trans (congrArg some st)
  obtain ⟨xe, exe⟩ : ∃ xe : Value → Shared → Prop, xe = fun e s1 => wpAny (model X.prog X.w) X.A (noteFrame e X.env)
      (fun _ s2 => wpAny (model X.prog X.w) X.A (setFlight e none) (fun _ s3 => wpAny (model X.prog X.w) X.A (handleBy e X.env (h0 :: hs)) (SP X pins D) X.xe s3) X.xe s2) X.xe s1 := ⟨_, rfl⟩
  have caught : Takes (X.tr (X.pn ++ pins) xe) (wish X.K i out D l) := by
    rintro u s1 ⟨a, B, sI, pins1, σ1, H1, c, d, rfl, J, gr, up, sky, na, os, ag, q⟩
    show xe (.ref a) s1
    rw [exe]
    have sky1 : Sky B (X.env :: X.outer) a (Zc c d) X.env.locals s1.heap := st ▸ sky
    refine Sky.land Zc.steady frames fr sky1 fun h3 f3 u3 => ?_
    have w : Down X pins σ1 H1 a B c d sI { s1 with heap := h3 } := ⟨J.ofTry ok, gr, up.trans u3, f3, na, os, ag⟩
    exact w.clauses st fr nd hi loc tk k q
  have own : PassesOwn (model X.prog X.w) X.A X.env xe := by
    rw [exe]
    exact PassesOwn.looking
  refine wpAny_mono ((hb _ (X.pn ++ pins) xe caught own).run [] s σ H D (I.toTry _) h) ?_ ?_
  · intro f s1 r
    cases f with
    | ret u => obtain ⟨v, σ1, H1, J, r1, q⟩ := r; exact ⟨v, σ1, H1, J.ofTry ok, r1, q⟩
    | next => obtain ⟨σ1, H1, J, q⟩ := r; exact wpAny_execs_nil ⟨σ1, H1, J.ofTry ok, q⟩
    | cont => obtain ⟨σ1, H1, J, q⟩ := r; exact ⟨σ1, H1, J.ofTry ok, q⟩
    | brk => obtain ⟨σ1, H1, J, q⟩ := r; exact ⟨σ1, H1, J.ofTry ok, q⟩
  · intro e s1 he
    have he' : xe e s1 := he
    rw [exe] at he'
    exact he'
end
end L2.My
namespace K19
open PySem L2
open L2.My
def top (i : Nat) : Stmt := PySem.Challenge.pw_loopfoundry_k19_what_shapes_fit_and_thei.main.body.getD i (.Pass ⟨0, 0, 0, 0⟩)
abbrev tName : Stmt := top 9
abbrev tWhole : Stmt := top 10
abbrev tInteger : Stmt := top 11
abbrev tBetween : Stmt := top 12
abbrev tTree : Stmt := top 17
abbrev tWithin : Stmt := top 18
abbrev tState : Stmt := top 19
abbrev tShape : Stmt := top 24
abbrev tWorking : Stmt := top 25
abbrev tTogether : Stmt := top 26
abbrev tCheck : Stmt := top 27
abbrev tIsStore : Stmt := top 28
abbrev tFits : Stmt := top 29
abbrev tDoes : Stmt := top 30
abbrev tWalked : Stmt := top 31
abbrev tPaths : Stmt := top 32
abbrev tHoles : Stmt := top 33
abbrev tLoads : Stmt := top 34
abbrev tWrite : Stmt := top 35
abbrev tSigns : Stmt := top 36
abbrev tRead : Stmt := top 37
abbrev tShapeOf : Stmt := top 38
abbrev tPart : Stmt := top 39
abbrev tUrn : Stmt := top 41
abbrev tPull : Stmt := top 42
abbrev tOne : Stmt := top 43
abbrev tGrow : Stmt := top 44
abbrev tMenu : Stmt := top 45
abbrev tBelow : Stmt := top 46
abbrev tHolesL : Stmt := top 47
abbrev tTold : Stmt := top 48
abbrev tPathsL : Stmt := top 49
abbrev tTextL : Stmt := top 50
abbrev tRight : Stmt := top 51
abbrev tLaw : Stmt := top 52
/-! ### growing heaps -/
theorem grow {H : Hp} {p : Addr} {o : HO} (hp : H p = none) : Same H (upd H p o) := fun b u e => by rw [upd_ne (ne_of_none e hp)]; exact e
/-! ### data: what the checks are asked of -/
inductive Tv (H : Hp) (N : Nat) : Nat → V → Prop
  | non {n : Nat} : Tv H N n .non
  | bl {n : Nat} (b : Bool) : Tv H N n (.bl b)
  | int {n : Nat} (i : Int) (h : i.natAbs < 10 ^ 40) : Tv H N n (.int i)
  | str {n : Nat} (z : Str) (h : z.length ≤ 100) : Tv H N n (.str z)
  | lst {n : Nat} {a : Addr} {xs : List V} (e : H a = some (.lst xs)) : Tv H N n (.ref a)
  | dct {n : Nat} {a : Addr} {kvs : List (Key × V)} (e : H a = some (.dK kvs)) : Tv H N n (.ref a)
  | tup {n : Nat} {a : Addr} {xs : List V} (e : H a = some (.tup xs)) (l : xs.length ≤ N) (h : ∀ x ∈ xs, Tv H N n x) : Tv H N (n + 1) (.ref a)
def IsL (H : Hp) (p : Addr) : Prop := ∃ xs, H p = some (.lst xs)
/-- tuples and dicts stay, lists stay lists -/
structure Kp (H H' : Hp) : Prop where
  tup : ∀ a xs, H a = some (.tup xs) → H' a = some (.tup xs)
  lst : ∀ a, IsL H a → IsL H' a
  dct : ∀ a (kvs : List (Key × V)), H a = some (.dK kvs) → H' a = some (.dK kvs)
theorem Kp.of {H H' : Hp} (s : Same H H') : Kp H H' := ⟨fun _ _ e => s _ _ e, fun _ ⟨_, e⟩ => ⟨_, s _ _ e⟩, fun _ _ e => s _ _ e⟩
theorem Kp.refl {H : Hp} : Kp H H := ⟨fun _ _ e => e, fun _ e => e, fun _ _ e => e⟩
theorem Kp.trans {H H1 H2 : Hp} (a : Kp H H1) (b : Kp H1 H2) : Kp H H2 := ⟨fun _ _ e => b.tup _ _ (a.tup _ _ e), fun _ e => b.lst _ (a.lst _ e), fun _ _ e => b.dct _ _ (a.dct _ _ e)⟩
theorem Kp.upd {H : Hp} {p : Addr} {xs ys : List V} (e : H p = some (.lst xs)) : Kp H (upd H p (.lst ys)) := by
  refine ⟨fun a zs e2 => ?_, fun a e2 => ?_, fun a k e2 => ?_⟩
  · rw [upd_ne (fun c => by subst c; rw [e] at e2; cases e2)]
    exact e2
  · by_cases c : a = p
    · subst c
      exact ⟨_, upd_same⟩
    · obtain ⟨zs, e2⟩ := e2
      exact ⟨zs, by rw [upd_ne c]; exact e2⟩
  · rw [upd_ne (fun c => by subst c; rw [e] at e2; cases e2)]
    exact e2
theorem Tv.kp {H H' : Hp} {N n : Nat} {v : V} (t : Tv H N n v) (s : Kp H H') : Tv H' N n v := by
  induction t with
  | non => exact .non
  | bl b => exact .bl b
  | int i h => exact .int i h
  | str z h => exact .str z h
  | lst e =>
    obtain ⟨ys, e2⟩ := s.lst _ ⟨_, e⟩
    exact .lst e2
  | dct e => exact .dct (s.dct _ _ e)
  | tup e l h ih => exact .tup (s.tup _ _ e) l ih
theorem Tv.up {H : Hp} {N n : Nat} {v : V} (t : Tv H N n v) : Tv H N (n + 1) v := by
  induction t with
  | non => exact .non
  | bl b => exact .bl b
  | int i h => exact .int i h
  | str z h => exact .str z h
  | lst e => exact .lst e
  | dct e => exact .dct e
  | tup e l h ih => exact .tup e l ih
theorem Tv.upN {H : Hp} {N n m : Nat} {v : V} (t : Tv H N n v) (h : n ≤ m) : Tv H N m v := by
  obtain ⟨k, rfl⟩ := Nat.le.dest h
  clear h
  induction k with
  | zero => exact t
  | succ k ih => exact ih.up
theorem Tv.wide {H : Hp} {N M n : Nat} {v : V} (t : Tv H N n v) (le : N ≤ M) : Tv H M n v := by
  induction t with
  | non => exact .non
  | bl b => exact .bl b
  | int i h => exact .int i h
  | str z h => exact .str z h
  | lst e => exact .lst e
  | dct e => exact .dct e
  | tup e l h ih => exact .tup e (Nat.le_trans l le) ih
/-- all but the loom at p is as it was -/
def But (p : Addr) (H H' : Hp) : Prop := ∀ q, q ≠ p → ∀ o, H q = some o → H' q = some o
theorem But.refl {p : Addr} {H : Hp} : But p H H := fun _ _ _ e => e
theorem But.trans {p : Addr} {H H1 H2 : Hp} (a : But p H H1) (b : But p H1 H2) : But p H H2 := fun q hq o e => b q hq o (a q hq o e)
theorem But.of {p : Addr} {H H' : Hp} (s : Same H H') : But p H H' := fun q _ o e => s q o e
theorem But.fresh {p : Addr} {H H' : Hp} (b : But p H H') (d : H p = none) : Same H H' := fun q o e => b q (ne_of_none e d) o e
theorem But.kp {H H' : Hp} {p : Addr} (s : But p H H') (l : IsL H p) (l' : IsL H' p) : Kp H H' := by
  obtain ⟨ys, e0⟩ := l
  refine ⟨fun a xs e => s _ (fun c => by subst c; rw [e] at e0; cases e0) _ e, fun a e => ?_, fun a xs e => s _ (fun c => by subst c; rw [e] at e0; cases e0) _ e⟩
  by_cases c : a = p
  · subst c
    exact l'
  · obtain ⟨zs, e⟩ := e
    exact ⟨zs, s _ c _ e⟩
/-! ### what the checks tell, of a heap -/
def nameZ (z : Str) : Bool := decide (1 ≤ z.length) && decide (z.length ≤ 8) && z.cps.toList.all fun c => decide (97 ≤ c) && decide (c ≤ 122)
def nameB : V → Bool
  | .str z => nameZ z
  | _ => false
def inB (i : Int) : Bool := decide (-(10 ^ 30) < i) && decide (i < 10 ^ 30)
def integB : V → Bool
  | .int i => inB i
  | _ => false
def fewB : V → Bool
  | .int i => decide (0 ≤ i) && decide (i ≤ 3)
  | _ => false
def betw (lo hi : Int) : V → Bool
  | .int i => decide (lo ≤ i) && decide (i ≤ hi)
  | _ => false
def tupV (H : Hp) : V → Option (List V)
  | .ref a => match H a with
    | some (.tup xs) => some xs
    | _ => none
  | _ => none
def strOf : V → Option Str
  | .str z => some z
  | _ => none
def isS (v : V) (z : Str) : Bool := decide (strOf v = some z)
theorem Tv.text {H : Hp} {N n : Nat} {v : V} (t : Tv H N n v) : AsText H v (strOf v) := by
  cases t with
  | non => exact .non
  | bl b => exact .bl b
  | int i h => exact .int i
  | str z h => exact .str z
  | lst e => exact .lst e
  | dct e => exact .dic e
  | tup e l h => exact .tup e
def atB : List V → Bool
  | [d] => fewB d
  | _ => false
def loadB : List V → Bool
  | [s, o] => integB s && integB o
  | _ => false
def partsB (f : V → Bool) : List V → Bool
  | h :: nm :: r => nameB nm && (if isS h "at" = true then atB r
      else if isS h "load" = true then loadB r
      else isS h "op" && decide (r.length ≤ 3) && r.all f)
  | _ => false
def treeB (H : Hp) : Nat → V → Bool
  | 0, _ => false
  | n + 1, v => match tupV H v with
    | some xs => partsB (treeB H n) xs
    | none => false
theorem tupV_of {H : Hp} {a : Addr} {xs : List V} (e : H a = some (.tup xs)) : tupV H (.ref a) = some xs := by
  show (match H a with | some (.tup xs) => some xs | _ => none) = _
  rw [e]
theorem tupV_kp {H H' : Hp} {N n : Nat} {v : V} (t : Tv H N n v) (s : Kp H H') : tupV H' v = tupV H v := by
  cases t with
  | non => rfl
  | bl b => rfl
  | int i h => rfl
  | str z h => rfl
  | lst e =>
    obtain ⟨ys, e2⟩ := s.lst _ ⟨_, e⟩
    simp only [tupV, e, e2]
  | dct e =>
    have e2 := s.dct _ _ e
    simp only [tupV, e, e2]
  | tup e l h => rw [tupV_of e, tupV_of (s.tup _ _ e)]
theorem all_congr {f g : V → Bool} : ∀ {xs : List V}, (∀ x ∈ xs, f x = g x) → xs.all f = xs.all g
  | [], _ => rfl
  | x :: xs, h => by
    rw [List.all_cons, List.all_cons, h x (List.mem_cons_self ..), all_congr fun y hy => h y (List.mem_cons_of_mem _ hy)]
theorem partsB_congr {f g : V → Bool} {xs : List V} (h : ∀ x ∈ xs, f x = g x) : partsB f xs = partsB g xs := by
  match xs, h with
  | [], _ => rfl
  | [_], _ => rfl
  | a :: b :: r, h =>
    simp only [partsB]
    rw [all_congr fun y hy => h y (List.mem_cons_of_mem _ (List.mem_cons_of_mem _ hy))]
theorem treeB_kp {H H' : Hp} {N : Nat} (s : Kp H H') : ∀ {m n : Nat} {v : V}, Tv H N n v → treeB H' m v = treeB H m v
  | 0, _, _, _ => rfl
  | m + 1, n, v, t => by
    unfold treeB
    rw [tupV_kp t s]
    cases t with
    | tup e l h =>
      rw [tupV_of e]
      exact partsB_congr fun x hx => treeB_kp s (h x hx)
    | lst e => simp only [tupV, e]
    | dct e => simp only [tupV, e]
    | _ => rfl
structure Txt (mg : Str → Option Value) : Prop where
  isi : mg "isinstance" = none
  int : mg "int" = none
  bool : mg "bool" = none
  str : mg "str" = none
  tuple : mg "tuple" = none
  list : mg "list" = none
  len : mg "len" = none
  all : mg "all" = none
  abs : mg "abs" = none
  long : ∃ t, mg "LONG" = some (.int (10 ^ 30) t)
  letters8 : ∃ t, mg "MAX_LETTERS" = some (.int 8 t)
  letters : ∃ t, mg "LETTERS" = some (.str "abcdefghijklmnopqrstuvwxyz" t)
theorem Tv.ty {K : PySem.W.Frag} {H : Hp} {N n : Nat} {v : V} (t : Tv H N n v) : ∃ z : String, z ∈ ["NoneType", "bool", "int", "str", "list", "dict", "tuple"] ∧ TyX K H v (.type z) ∧ (z = "str" ↔ ∃ y, v = .str y) ∧ (z = "tuple" ↔ ∃ xs, tupV H v = some xs) ∧ (z = "int" ↔ ∃ i, v = .int i) ∧ (z = "bool" ↔ ∃ b, v = .bl b) := by
  cases t with
  | non => exact ⟨"NoneType", by decide, .base .non, by simp, by simp [tupV], by simp, by simp⟩
  | bl b => exact ⟨"bool", by decide, .base (.bl b), by simp, by simp [tupV], by simp, by simp⟩
  | int i h => exact ⟨"int", by decide, .base (.int i), by simp, by simp [tupV], by simp, by simp⟩
  | str z h => exact ⟨"str", by decide, .base (.str z), by simp, by simp [tupV], by simp, by simp⟩
  | lst e => exact ⟨"list", by decide, .base (.lst e), by simp, by simp [tupV, e], by simp, by simp⟩
  | dct e => exact ⟨"dict", by decide, .base (.dK e), by simp, by simp [tupV, e], by simp, by simp⟩
  | tup e l h => exact ⟨"tuple", by decide, .base (.tup e), by simp, by simp [tupV, e], by simp, by simp⟩
end K19
namespace K19
open PySem L2
open L2.My
theorem iteD {c A B : Prop} [Decidable c] (hc : c) (h : A) : if decide c = true then A else B := by
  rw [decide_eq_true hc]
  exact iteT h
theorem iteDn {c A B : Prop} [Decidable c] (hc : ¬ c) (h : B) : if decide c = true then A else B := by
  rw [decide_eq_false hc]
  exact iteF h
theorem letters_range (c : Nat) : decide (c ∈ ("abcdefghijklmnopqrstuvwxyz" : Str).cps.toList) = (decide (97 ≤ c) && decide (c ≤ 122)) := by
  have e : ("abcdefghijklmnopqrstuvwxyz" : Str).cps.toList = [97,98,99,100,101,102,103,104,105,106,107,108,109,110,111,112,113,114,115,116,117,118,119,120,121,122] := by decide +kernel
  rw [e]
  apply Bool.eq_iff_iff.mpr
  simp only [decide_eq_true_eq, Bool.and_eq_true, List.mem_cons, List.not_mem_nil, or_false]
  omega
theorem take_step {α β : Type} (f : α → β) {xs : List α} {i : Nat} {x : α} (h : xs[i]? = some x) : (xs.take (i + 1)).map f = (xs.take i).map f ++ [f x] := by
  obtain ⟨hi, hx⟩ := List.getElem?_eq_some_iff.mp h
  rw [← hx, List.take_succ_eq_append_getElem hi, List.map_append, List.map_singleton]
theorem all_map_id {α : Type} (f : α → Bool) (xs : List α) : (xs.map f).all id = xs.all f := by
  rw [List.all_map]
  rfl
/-- H with the list xs at D, which is new since H0 -/
def Acc (H0 : Hp) (D : Addr) (xs : List V) (H : Hp) : Prop := Same H0 H ∧ H0 D = none ∧ H D = some (.lst xs)
theorem Acc.start {H0 : Hp} {D : Addr} (hD : H0 D = none) : Acc H0 D [] (upd H0 D (.lst [])) := ⟨grow hD, hD, upd_same⟩
theorem Acc.put {H0 H : Hp} {D : Addr} {xs ys : List V} (a : Acc H0 D xs H) : Acc H0 D ys (upd H D (.lst ys)) :=
  ⟨fun q o e => by rw [upd_ne (ne_of_none e a.2.1)]; exact a.1 q o e, a.2.1, upd_same⟩
theorem Acc.on {H0 H H' : Hp} {D : Addr} {xs : List V} (a : Acc H0 D xs H) (s : Same H H') : Acc H0 D xs H' := ⟨fun q o e => s _ _ (a.1 q o e), a.2.1, s _ _ a.2.2⟩
section
variable {P : Program} {w : World} {K : PySem.W.Frag} {mg : Str → Option Value} {base : Heap}
/-! ### is_name -/
def spV (N m : Nat) (f : V → Bool) : Sp := fun vs H Q _ => ∃ x, vs = [x] ∧ Tv H N m x ∧ ∀ H', Same H H' → Q (.bl (f x)) H'
def spB (N m : Nat) (f : Hp → V → Bool) : Sp := fun vs H Q _ => ∃ x, vs = [x] ∧ Tv H N m x ∧ ∀ H', Same H H' → Q (.bl (f H x)) H'
theorem scName : FnScope ["value", "letter"] ["value"] (defScope tName) := ⟨rfl, rfl, rfl, by decide +kernel, rfl, by decide +kernel, by decide +kernel⟩
theorem ok_name {N m : Nat} {f : Addr} {fd : FuncData} (F : Fun K "is_name" "is_name" tName f fd) (T : Txt mg) : FnOk P w K mg base CX0 1 f fd ["value"] (spV N m nameB) := by
  obtain ⟨t8, l8⟩ := T.letters8
  obtain ⟨tL, lL⟩ := T.letters
  refine F.ok scName (fun vs H Q E h => ?_) (fun cdv A outer s H vs Q E hr h => ?_)
  · obtain ⟨x, rfl, _⟩ := h
    rfl
  · obtain ⟨x, rfl, tx, k⟩ := h
    refine ⟨_, pss_cons (ps_if (PW.pt (pw_or (pt_not (pt_val (pe_callB call_isi (by rfl) T.isi (by decide +kernel) (pa_cons (pv 0) (pa_cons (pe_bltn (v := .ty "str") (by rfl) T.str (by decide +kernel) rfl) pa_nil)))))
        (pw_or1 (pt_not (pt_chain op_le op_le pe_int (pe_callB call_len_str (by rfl) T.len PySem.boot_len (pa_cons (pv 0) pa_nil)) (pe_glob (v := .int 8) rfl l8 ⟨_, rfl⟩))))))
        (pss_one (ps_ret pe_bl)) pss_nil)
      (pss_one (ps_ret (pe_callB (cr_all (by rfl)) (by rfl) T.all (by decide +kernel) (pa_cons (pe_lc (own := [("letter", 1)]) (g := gName 1) (tt := tYes) (by rfl) scName.nd (pi_str (pv 0)) (blkOk_by (own := [("letter", 1)]) (N := ["value", "letter"]) (sc := defScope tName) (by decide +kernel))
        (fun _ _ _ _ _ => pg_name (i := 1) scName.nd rfl (Or.inl rfl)) (fun _ _ _ _ _ => pts_nil) (fun _ _ _ _ _ => pe_cmpR op_in_sign (pv 1) (pe_glob (v := .str "abcdefghijklmnopqrstuvwxyz") rfl lL ⟨_, rfl⟩) (by rfl))) pa_nil)))), ?_⟩
    obtain ⟨z, hz, ty, q1, _⟩ := tx.ty (K := K)
    by_cases c : z = "str"
    · obtain ⟨y, rfl⟩ := q1.mp c
      cases tx with
      | str _ len =>
      refine ⟨_, rfl, _, _, _, _, _, rfl, ClsV.ty _, .base (.str y), kit_ty (r := true) (by decide +kernel), _, rfl, iteF ?_⟩
      refine ⟨_, rfl, y, rfl, (by have : (100 : Nat) ≤ sizeLine := by decide
                                  omega), _, _, rfl, rfl, _, rfl, ?_⟩
      have nz : nameZ y = (decide (1 ≤ y.length) && decide (y.length ≤ 8) && y.cps.toList.all fun c => decide (97 ≤ c) && decide (c ≤ 122)) := rfl
      by_cases c1 : (1 : Int) ≤ (y.length : Int)
      · refine iteD c1 ⟨_, _, rfl, rfl, _, rfl, ?_⟩
        by_cases c2 : (y.length : Int) ≤ 8
        · rw [decide_eq_true c2]
          refine iteF ?_
          refine ⟨_, rfl, y, rfl, fun D hD => lc_it walk_str (fun i H' => Acc H D (((y.cps.toList.take i).map fun c => decide (c ∈ ("abcdefghijklmnopqrstuvwxyz" : Str).cps.toList)).map V.bl) H') (Acc.start hD) (fun _ _ _ _ => trivial) ?_ ?_⟩
          · rintro i v H1 H2 hi a ⟨rfl, c, hc, rfl⟩
            refine ⟨rfl, _, rfl, c, _, rfl, rfl, _, a.2.2, ?_, ?_⟩
            · rw [List.length_map, List.length_map, List.length_take]
              have : (100 : Nat) ≤ sizeLine := by decide
              have z1 : y.cps.toList.length = y.length := Array.length_toList
              omega
            · have e : y.cps.toList[i]? = some c := by simpa using hc
              rw [take_step _ e, List.map_append]
              exact a.put
          · intro H1 a
            refine ⟨_, _, rfl, SqL.of a.2.2, ?_⟩
            have e : y.cps.toList.take y.cps.size = y.cps.toList := List.take_of_length_le (by simp)
            have e2 : nameB (.str y) = ((y.cps.toList.take y.cps.size).map fun c => decide (c ∈ ("abcdefghijklmnopqrstuvwxyz" : Str).cps.toList)).all id := by
              rw [e, all_map_id]
              show nameZ y = _
              rw [nz, decide_eq_true (show 1 ≤ y.length by omega), decide_eq_true (show y.length ≤ 8 by omega), Bool.true_and, Bool.true_and]
              congr 1
              funext c
              exact (letters_range c).symm
            rw [← e2]
            exact k _ a.1
        · rw [decide_eq_false c2]
          refine iteT ?_
          have nb : nameB (.str y) = false := by
            show nameZ y = false
            rw [nz, decide_eq_false (show ¬ y.length ≤ 8 by omega), Bool.and_false, Bool.false_and]
          rw [← nb]
          exact k H (Same.refl H)
      · refine iteDn c1 ⟨_, rfl, iteT ?_⟩
        have nb : nameB (.str y) = false := by
          show nameZ y = false
          rw [nz, decide_eq_false (show ¬ 1 ≤ y.length by omega), Bool.false_and, Bool.false_and]
        rw [← nb]
        exact k H (Same.refl H)
    · have nb : nameB x = false := by
        cases x with
        | str y => exact absurd (q1.mpr ⟨y, rfl⟩) c
        | _ => rfl
      refine ⟨_, rfl, _, _, _, _, _, rfl, ClsV.ty _, ty, kit_ty (r := false) (by
        simp only [List.mem_cons, List.not_mem_nil, or_false] at hz
        rcases hz with rfl | rfl | rfl | rfl | rfl | rfl | rfl <;> first | exact absurd rfl c | decide +kernel), _, rfl, iteT (iteT ?_)⟩
      rw [← nb]
      exact k H (Same.refl H)
end
end K19
namespace K19
open PySem L2
open L2.My
def wholeB : V → Bool
  | .int _ => true
  | _ => false
theorem inB_iff {i : Int} : inB i = true ↔ -(10 ^ 30) < i ∧ i < 10 ^ 30 := by
  unfold inB
  rw [Bool.and_eq_true, decide_eq_true_eq, decide_eq_true_eq]
theorem log40 {n : Nat} (h : n < 10 ^ 40) : n.log2 < 1920 := by
  by_cases z : n = 0
  · subst z
    decide
  · have h2 : n < 2 ^ 133 := Nat.lt_of_lt_of_le h (by decide)
    exact Nat.lt_of_lt_of_le ((Nat.log2_lt z).mpr h2) (by decide)
section
variable {P : Program} {w : World} {K : PySem.W.Frag} {mg : Str → Option Value} {base : Heap}
/-! ### is_whole, is_integer, is_between -/
theorem scWhole : FnScope ["value"] ["value"] (defScope tWhole) := ⟨rfl, rfl, rfl, by decide +kernel, rfl, by decide +kernel, by decide +kernel⟩
theorem ok_whole {N m : Nat} {f : Addr} {fd : FuncData} (F : Fun K "is_whole" "is_whole" tWhole f fd) (T : Txt mg) : FnOk P w K mg base CX0 1 f fd ["value"] (spV N m wholeB) := by
  refine F.ok scWhole (fun vs H Q E h => ?_) (fun cdv A outer s H vs Q E hr h => ?_)
  · obtain ⟨x, rfl, _⟩ := h
    rfl
  · obtain ⟨x, rfl, it, k⟩ := h
    refine ⟨_, pss_one (ps_ret (pe_and (pe_callB call_isi (by rfl) T.isi (by decide +kernel) (pa_cons (pv 0) (pa_cons (pe_bltn (v := .ty "int") (by rfl) T.int (by decide +kernel) rfl) pa_nil)))
      (pe_one (pe_not (pe_callB call_isi (by rfl) T.isi (by decide +kernel) (pa_cons (pv 0) (pa_cons (pe_bltn (v := .ty "bool") (by rfl) T.bool (by decide +kernel) rfl) pa_nil))))))), ?_⟩
    obtain ⟨z, hz, ty, q1, q2, q3, q4⟩ := it.ty (K := K)
    by_cases c : z = "int" ∨ z = "bool"
    · rcases c with c | c
      · obtain ⟨y, rfl⟩ := q3.mp c
        refine ⟨_, rfl, _, _, _, _, _, rfl, ClsV.ty _, .base (.int _), kit_ty (r := true) (by decide +kernel), _, rfl, iteT ?_⟩
        exact ⟨_, rfl, _, _, _, _, _, rfl, ClsV.ty _, .base (.int _), kit_ty (r := false) (by decide +kernel), _, rfl, k H (Same.refl H)⟩
      · obtain ⟨y, rfl⟩ := q4.mp c
        refine ⟨_, rfl, _, _, _, _, _, rfl, ClsV.ty _, .base (.bl _), kit_ty (r := true) (by decide +kernel), _, rfl, iteT ?_⟩
        exact ⟨_, rfl, _, _, _, _, _, rfl, ClsV.ty _, .base (.bl _), kit_ty (r := true) (by decide +kernel), _, rfl, k H (Same.refl H)⟩
    · have nb : wholeB x = false := by
        cases x with
        | int y => exact absurd (.inl (q3.mpr ⟨y, rfl⟩)) c
        | _ => rfl
      refine ⟨_, rfl, _, _, _, _, _, rfl, ClsV.ty _, ty, kit_ty (r := false) (by
        simp only [List.mem_cons, List.not_mem_nil, or_false] at hz
        rcases hz with rfl | rfl | rfl | rfl | rfl | rfl | rfl <;> first | exact absurd (.inl rfl) c | exact absurd (.inr rfl) c | decide +kernel), _, rfl, iteF ?_⟩
      rw [← nb]
      exact k H (Same.refl H)
theorem scInteger : FnScope ["value"] ["value"] (defScope tInteger) := ⟨rfl, rfl, rfl, by decide +kernel, rfl, by decide +kernel, by decide +kernel⟩
theorem ok_integer {N m : Nat} {f fW : Addr} {fd fdW : FuncData} (F : Fun K "is_integer" "is_integer" tInteger f fd) (T : Txt mg) (FW : Fun K "is_whole" "is_whole" tWhole fW fdW) (bW : Binds K fdW ["value"] []) (gW : mg "is_whole" = some (.ref fW)) :
    FnOk P w K mg base CX0 2 f fd ["value"] (spV N m integB) := by
  have GW : FnOk P w K mg base CX0 1 fW fdW ["value"] (spV N m wholeB) := ok_whole FW T
  obtain ⟨tl, long⟩ := T.long
  refine F.ok scInteger (fun vs H Q E h => ?_) (fun cdv A outer s H vs Q E hr h => ?_)
  · obtain ⟨x, rfl, _⟩ := h
    rfl
  · obtain ⟨x, rfl, it, k⟩ := h
    refine ⟨_, pss_one (ps_ret (pe_and (pe_call GW hr rfl gW FW.kp bW .nil pass0 (pa_cons (pv 0) pa_nil))
      (pe_one (pe_chain op_lt op_lt (pe_un un_neg (pe_glob (v := .int (10 ^ 30)) rfl long ⟨_, rfl⟩)) (pv 0) (pe_glob (v := .int (10 ^ 30)) rfl long ⟨_, rfl⟩))))), ?_⟩
    refine ⟨_, rfl, x, rfl, it, fun H1 s1 => ?_⟩
    refine ⟨_, rfl, ?_⟩
    cases x with
    | int i =>
      refine iteT ⟨_, rfl, _, rfl, _, _, rfl, rfl, _, rfl, ?_⟩
      by_cases c : -(10 ^ 30) < i
      · rw [decide_eq_true c]
        refine iteT ⟨_, _, rfl, rfl, ?_⟩
        have z : integB (.int i) = decide (i < 10 ^ 30) := by
          show (decide (-(10 ^ 30) < i) && _) = _
          rw [decide_eq_true c, Bool.true_and]
        have kk := k _ s1
        rw [z] at kk
        exact kk
      · rw [decide_eq_false c]
        have z : integB (.int i) = false := by
          show (decide (-(10 ^ 30) < i) && _) = _
          rw [decide_eq_false c, Bool.false_and]
        have kk := k _ s1
        rw [z] at kk
        exact iteF kk
    | _ => exact iteF (k _ s1)
def spBetween (N m : Nat) : Sp := fun vs H Q _ => ∃ x, vs = [x, .int 0, .int 3] ∧ Tv H N m x ∧ ∀ H', Same H H' → Q (.bl (fewB x)) H'
theorem scBetween : FnScope ["value", "least", "most"] ["value", "least", "most"] (defScope tBetween) := ⟨rfl, rfl, rfl, by decide +kernel, rfl, by decide +kernel, by decide +kernel⟩
theorem ok_between {N m : Nat} {f fI : Addr} {fd fdI : FuncData} (F : Fun K "is_between" "is_between" tBetween f fd) (GI : FnOk P w K mg base CX0 2 fI fdI ["value"] (spV N m integB)) (kI : PySem.W.keepIn K (.ref fI) = true) (bI : Binds K fdI ["value"] []) (gI : mg "is_integer" = some (.ref fI)) :
    FnOk P w K mg base CX0 3 f fd ["value", "least", "most"] (spBetween N m) := by
  refine F.ok scBetween (fun vs H Q E h => ?_) (fun cdv A outer s H vs Q E hr h => ?_)
  · obtain ⟨x, rfl, _⟩ := h
    rfl
  · obtain ⟨x, rfl, it, k⟩ := h
    refine ⟨_, pss_one (ps_ret (pe_and (pe_call GI hr rfl gI kI bI .nil pass0 (pa_cons (pv 0) pa_nil))
      (pe_and (pe_cmpR op_le (pv 1) (pv 0) (nomark _))
      (pe_one (pe_or (pe_cmpR op_isN (pv 2) pe_non (nomark _)) (pe_one (pe_cmpR op_le (pv 0) (pv 2) (nomark _)))))))), ?_⟩
    refine ⟨_, rfl, x, rfl, it, fun H1 s1 => ?_⟩
    refine ⟨_, rfl, ?_⟩
    have e30 : (10 : Int) ^ 30 = 1000000000000000000000000000000 := by decide
    cases x with
    | int i =>
      have z : fewB (.int i) = (decide (0 ≤ i) && decide (i ≤ 3)) := rfl
      cases ci : integB (.int i) with
      | false =>
        refine iteF ?_
        have z2 : fewB (.int i) = false := by
          rw [z]
          have ci2 : ¬ (inB i = true) := by
            show ¬ (integB (.int i) = true)
            rw [ci]
            exact Bool.false_ne_true
          rw [inB_iff, e30] at ci2
          by_cases c0 : 0 ≤ i
          · rw [decide_eq_false (show ¬ i ≤ 3 by omega), Bool.and_false]
          · rw [decide_eq_false c0, Bool.false_and]
        have kk := k _ s1
        rw [z2] at kk
        exact kk
      | true =>
        refine iteT ⟨_, rfl, _, rfl, _, _, rfl, rfl, _, rfl, ?_⟩
        by_cases c0 : 0 ≤ i
        · rw [decide_eq_true c0]
          refine iteT ⟨_, rfl, rfl, _, rfl, iteF ⟨_, rfl, _, rfl, _, _, rfl, rfl, ?_⟩⟩
          have z2 : fewB (.int i) = decide (i ≤ 3) := by
            rw [z, decide_eq_true c0, Bool.true_and]
          have kk := k _ s1
          rw [z2] at kk
          exact kk
        · rw [decide_eq_false c0]
          have z2 : fewB (.int i) = false := by
            rw [z, decide_eq_false c0, Bool.false_and]
          refine iteF ?_
          have kk := k _ s1
          rw [z2] at kk
          exact kk
    | _ => exact iteF (k _ s1)
/-! ### the law's own -/
/-! ### _law_is_number -/
end
end K19
namespace K19
open PySem L2
open L2.My
theorem Tv.same {H H' : Hp} {N m : Nat} {v : V} (t : Tv H N m v) (s : Same H H') : Tv H' N m v := t.kp (.of s)
structure Txt2 (mg : Str → Option Value) : Prop where
  trees : ∃ t, mg "MAX_TREES" = some (.int 3 t)
  dist : ∃ t, mg "MAX_DISTANCE" = some (.int 3 t)
  levels : ∃ t, mg "MAX_LEVELS" = some (.int 4 t)
theorem treeB_tup {H : Hp} {a : Addr} {xs : List V} {q : Nat} (e : H a = some (.tup xs)) : treeB H (q + 1) (.ref a) = partsB (treeB H q) xs := by
  unfold treeB
  rw [tupV_of e]
theorem Tv.tupcase {K : PySem.W.Frag} {H : Hp} {N m : Nat} {x : V} (t : Tv H N m x) :
    (∃ a xs, x = .ref a ∧ H a = some (.tup xs) ∧ xs.length ≤ N ∧ ∀ y ∈ xs, Tv H N m y) ∨ (tupV H x = none ∧ ∃ u, TyX K H x u ∧ PySem.W.kitOne K u (.type "tuple") = some false) := by
  cases t with
  | non => exact .inr ⟨rfl, _, .base .non, kit_ty (by decide +kernel)⟩
  | bl b => exact .inr ⟨rfl, _, .base (.bl b), kit_ty (by decide +kernel)⟩
  | int i h => exact .inr ⟨rfl, _, .base (.int i), kit_ty (by decide +kernel)⟩
  | str z h => exact .inr ⟨rfl, _, .base (.str z), kit_ty (by decide +kernel)⟩
  | lst e => exact .inr ⟨by simp [tupV, e], _, .base (.lst e), kit_ty (by decide +kernel)⟩
  | dct e => exact .inr ⟨by simp [tupV, e], _, .base (.dK e), kit_ty (by decide +kernel)⟩
  | tup e l h => exact .inl ⟨_, _, rfl, e, l, fun y hy => (h y hy).up⟩
theorem treeB_none {H : Hp} {x : V} {r : Nat} (h : tupV H x = none) : treeB H r x = false := by
  cases r with
  | zero => rfl
  | succ q =>
    unfold treeB
    rw [h]
section
variable {P : Program} {w : World} {K : PySem.W.Frag} {mg : Str → Option Value} {base : Heap}
/-! ### is_tree_within -/
def spWithin (N m r : Nat) : Sp := fun vs H Q _ => ∃ x, vs = [x, .int r] ∧ Tv H N m x ∧ ∀ H', Same H H' → Q (.bl (treeB H r x)) H'
theorem scWithin : FnScope ["value", "room", "below"] ["value", "room"] (defScope tWithin) := ⟨rfl, rfl, rfl, by decide +kernel, rfl, by decide +kernel, by decide +kernel⟩
theorem step_within {N m r : Nat} (hN : N ≤ 1000) {spR : Sp} {f fN fB fI : Addr} {fd fdN fdB fdI : FuncData} (F : Fun K "is_tree_within" "is_tree_within" tWithin f fd) (T : Txt mg) (T2 : Txt2 mg) (bF : Binds K fd ["value", "room"] []) (gF : mg "is_tree_within" = some (.ref f))
    (GN : FnOk P w K mg base CX0 1 fN fdN ["value"] (spV N m nameB)) (kN : PySem.W.keepIn K (.ref fN) = true) (bN : Binds K fdN ["value"] []) (gN : mg "is_name" = some (.ref fN))
    (GB : FnOk P w K mg base CX0 3 fB fdB ["value", "least", "most"] (spBetween N m)) (kB : PySem.W.keepIn K (.ref fB) = true) (bB : Binds K fdB ["value", "least", "most"] []) (gB : mg "is_between" = some (.ref fB))
    (GI : FnOk P w K mg base CX0 2 fI fdI ["value"] (spV N m integB)) (kI : PySem.W.keepIn K (.ref fI) = true) (bI : Binds K fdI ["value"] []) (gI : mg "is_integer" = some (.ref fI))
    (GR : FnOk P w K mg base CX0 (3 + r) f fd ["value", "room"] spR) (hR : ∀ q, r = q + 1 → spR = spWithin N m q) :
    FnOk P w K mg base CX0 (3 + r + 1) f fd ["value", "room"] (spWithin N m r) := by
  obtain ⟨tT, lT⟩ := T2.trees
  obtain ⟨tD, lD⟩ := T2.dist
  refine F.ok scWithin (fun vs H Q E h => ?_) (fun cdv A outer s H vs Q E hr h => ?_)
  · obtain ⟨x, rfl, _⟩ := h
    rfl
  · obtain ⟨x, rfl, tx, k⟩ := h
    have hu := Nat.lt_of_succ_lt (hu_of hr)
    have hr1 : Room 1 _ := hr.mono (by omega)
    have hr2 : Room 2 _ := hr.mono (by omega)
    have hr3 : Room 3 _ := hr.mono (by omega)
    refine ⟨_, pss_cons (ps_if (PW.pt (pw_or (pt_cmpR op_eq (pv 1) pe_int (nomark _))
          (pw_or (pt_not (pt_val (pe_callB call_isi (by rfl) T.isi (by decide +kernel) (pa_cons (pv 0) (pa_cons (pe_bltn (v := .ty "tuple") (by rfl) T.tuple (by decide +kernel) rfl) pa_nil)))))
          (pw_or (pt_cmpR op_lt (pe_callB call_len_seq (by rfl) T.len PySem.boot_len (pa_cons (pv 0) pa_nil)) pe_int (nomark _))
          (pw_or1 (pt_not (pt_val (pe_call GN hr1 rfl gN kN bN .nil pass0 (pa_cons (pe_ix ix_tup (pv 0) pe_int (fun _ _ => rfl)) pa_nil)))))))))
        (pss_one (ps_ret pe_bl)) pss_nil)
      (pss_cons (ps_if (pt_cmpR (op_eqX hu) (pe_ix ix_tup (pv 0) pe_int (fun _ _ => rfl)) pe_str (nomark _))
        (pss_one (ps_ret (pe_and (pe_cmpR op_eq (pe_callB call_len_seq (by rfl) T.len PySem.boot_len (pa_cons (pv 0) pa_nil)) pe_int (nomark _))
          (pe_one (pe_call GB hr3 rfl gB kB bB .nil pass0 (pa_cons (pe_ix ix_tup (pv 0) pe_int (fun _ _ => rfl)) (pa_cons pe_int (pa_cons (pe_glob (v := .int 3) rfl lD ⟨_, rfl⟩) pa_nil)))))))) pss_nil)
      (pss_cons (ps_if (pt_cmpR (op_eqX hu) (pe_ix ix_tup (pv 0) pe_int (fun _ _ => rfl)) pe_str (nomark _))
        (pss_one (ps_ret (pe_and (pe_cmpR op_eq (pe_callB call_len_seq (by rfl) T.len PySem.boot_len (pa_cons (pv 0) pa_nil)) pe_int (nomark _))
          (pe_and (pe_call GI hr2 rfl gI kI bI .nil pass0 (pa_cons (pe_ix ix_tup (pv 0) pe_int (fun _ _ => rfl)) pa_nil))
          (pe_one (pe_call GI hr2 rfl gI kI bI .nil pass0 (pa_cons (pe_ix ix_tup (pv 0) pe_int (fun _ _ => rfl)) pa_nil))))))) pss_nil)
      (pss_cons (ps_if (PW.pt (pw_or (pt_cmpR (op_neX hu) (pe_ix ix_tup (pv 0) pe_int (fun _ _ => rfl)) pe_str (nomark _))
          (pw_or1 (pt_cmpR op_gt (pe_callB call_len_seq (by rfl) T.len PySem.boot_len (pa_cons (pv 0) pa_nil)) (pe_op op_add pe_int (pe_glob (v := .int 3) rfl lT ⟨_, rfl⟩)) (nomark _)))))
        (pss_one (ps_ret pe_bl)) pss_nil)
      (pss_one (ps_ret (pe_callB (cr_all (by rfl)) (by rfl) T.all (by decide +kernel) (pa_cons (pe_lc (own := [("below", 2)]) (g := gName 2) (tt := tYes) (by rfl) scWithin.nd (pi_tup (pe_slice sl_tupA (pv 0) (po_some pe_int) po_none)) (blkOk_by (own := [("below", 2)]) (N := ["value", "room", "below"]) (sc := defScope tWithin) (by decide +kernel))
        (fun _ _ _ _ _ => pg_name (i := 2) scWithin.nd rfl (Or.inl rfl)) (fun _ _ _ _ _ => pts_nil) (fun _ _ _ _ _ => pe_call GR hr rfl gF F.kp bF .nil pass0 (pa_cons (pv 2) (pa_cons (pe_op op_sub (pv 1) pe_int) pa_nil)))) pa_nil))))))), ?_⟩
    refine ⟨_, rfl, rfl, _, rfl, ?_⟩
    cases r with
    | zero => exact iteD rfl (iteT (k H (Same.refl H)))
    | succ q =>
      refine iteDn (fun z => ?_) ?_
      · have := V.int.inj z
        omega
      have sR : spR = spWithin N m q := hR q rfl
      subst sR
      rcases tx.tupcase (K := K) with ⟨a, xs, rfl, e, l, hx⟩ | ⟨nt, u, ty, kt⟩
      · refine ⟨_, rfl, _, _, _, _, _, rfl, ClsV.ty _, .base (.tup e), kit_ty (r := true) (by decide +kernel), _, rfl, iteF ?_⟩
        refine ⟨_, rfl, a, xs, rfl, .inr (SqT.of e), _, _, rfl, rfl, _, rfl, ?_⟩
        have eT := treeB_tup (q := q) e
        match xs, e, l, hx, eT with
        | [], e, l, hx, eT =>
          refine iteD (by decide) (iteT ?_)
          have kk := k H (Same.refl H)
          rw [eT] at kk
          exact kk
        | [_], e, l, hx, eT =>
          refine iteD (by show (1 : Int) < 2; decide) (iteT ?_)
          have kk := k H (Same.refl H)
          rw [eT] at kk
          exact kk
        | hd :: nm :: rs, e, l, hx, eT =>
          refine iteDn (by rw [List.length_cons, List.length_cons]; omega) ?_
          have eP : partsB (treeB H q) (hd :: nm :: rs) = (nameB nm && (if isS hd "at" = true then atB rs
            else if isS hd "load" = true then loadB rs
            else isS hd "op" && decide (rs.length ≤ 3) && rs.all (treeB H q))) := rfl
          rw [eP] at eT
          refine ⟨_, rfl, a, _, 1, nm, rfl, rfl, SqT.of e, atI_nat (j := 1) rfl, nm, rfl, hx nm (by simp), fun H1 s1 => ?_⟩
          have e1 := s1 _ _ e
          refine ⟨_, rfl, ?_⟩
          cases cn : nameB nm with
          | false =>
            refine iteT ?_
            have kk := k _ s1
            rw [eT, cn, Bool.false_and] at kk
            exact kk
          | true =>
            refine iteF ?_
            rw [cn, Bool.true_and] at eT
            refine ⟨_, rfl, a, _, 0, hd, rfl, rfl, SqT.of e1, atI_nat (j := 0) rfl, _, _, rfl, ((hx hd (by simp)).same s1).text, _, rfl, ?_⟩
            by_cases cA : strOf hd = some ("at" : Str)
            · have zA : isS hd "at" = true := decide_eq_true cA
              rw [if_pos zA] at eT
              refine iteD cA ⟨_, rfl, a, _, rfl, .inr (SqT.of e1), rfl, _, rfl, ?_⟩
              by_cases c3 : rs.length = 1
              · match rs, c3 with
                | [d], _ =>
                  refine iteD (by rfl) ⟨_, rfl, a, _, 2, d, rfl, rfl, SqT.of e1, atI_nat (j := 2) rfl, d, rfl, (hx d (by simp)).same s1, fun H2 s2 => ?_⟩
                  have kk := k _ (s1.trans s2)
                  rw [eT] at kk
                  exact kk
              · refine iteDn (fun z => c3 ?_) ?_
                · have := V.int.inj z
                  rw [List.length_cons, List.length_cons] at this
                  omega
                · have kk := k _ s1
                  have z : atB rs = false := by
                    match rs, c3 with
                    | [], _ => rfl
                    | [_], c => exact absurd rfl c
                    | _ :: _ :: _, _ => rfl
                  rw [eT, z] at kk
                  exact kk
            have zA : isS hd "at" = false := decide_eq_false cA
            rw [zA, if_neg Bool.false_ne_true] at eT
            refine iteDn cA ⟨_, rfl, a, _, 0, hd, rfl, rfl, SqT.of e1, atI_nat (j := 0) rfl, _, _, rfl, ((hx hd (by simp)).same s1).text, _, rfl, ?_⟩
            by_cases cL : strOf hd = some ("load" : Str)
            · have zL : isS hd "load" = true := decide_eq_true cL
              rw [if_pos zL] at eT
              refine iteD cL ⟨_, rfl, a, _, rfl, .inr (SqT.of e1), rfl, _, rfl, ?_⟩
              by_cases c3 : rs.length = 2
              · match rs, c3 with
                | [d, o], _ =>
                  have eL : loadB [d, o] = (integB d && integB o) := rfl
                  rw [eL] at eT
                  refine iteD (by rfl) ⟨_, rfl, a, _, 2, d, rfl, rfl, SqT.of e1, atI_nat (j := 2) rfl, d, rfl, (hx d (by simp)).same s1, fun H2 s2 => ?_⟩
                  refine ⟨_, rfl, ?_⟩
                  have e2 := s2 _ _ e1
                  cases cd : integB d with
                  | false =>
                    have kk := k _ (s1.trans s2)
                    rw [eT, cd, Bool.false_and] at kk
                    exact iteF kk
                  | true =>
                    refine iteT ⟨_, rfl, a, _, 3, o, rfl, rfl, SqT.of e2, atI_nat (j := 3) rfl, o, rfl, (hx o (by simp)).same (s1.trans s2), fun H3 s3 => ?_⟩
                    have kk := k _ ((s1.trans s2).trans s3)
                    rw [eT, cd, Bool.true_and] at kk
                    exact kk
              · refine iteDn (fun z => c3 ?_) ?_
                · have := V.int.inj z
                  rw [List.length_cons, List.length_cons] at this
                  omega
                · have kk := k _ s1
                  have z : loadB rs = false := by
                    match rs, c3 with
                    | [], _ => rfl
                    | [_], _ => rfl
                    | [_, _], c => exact absurd rfl c
                    | _ :: _ :: _ :: _, _ => rfl
                  rw [eT, z] at kk
                  exact kk
            have zL : isS hd "load" = false := decide_eq_false cL
            rw [zL, if_neg Bool.false_ne_true] at eT
            refine iteDn cL ⟨_, rfl, a, _, 0, hd, rfl, rfl, SqT.of e1, atI_nat (j := 0) rfl, _, _, rfl, ((hx hd (by simp)).same s1).text, _, rfl, ?_⟩
            by_cases cO : strOf hd = some ("op" : Str)
            · have zO : isS hd "op" = true := decide_eq_true cO
              rw [zO, Bool.true_and] at eT
              refine iteNS cO ?_
              refine ⟨_, rfl, a, _, rfl, .inr (SqT.of e1), _, _, rfl, rfl, _, _, rfl, rfl, _, rfl, ?_⟩
              by_cases c3 : rs.length ≤ 3
              · rw [decide_eq_true c3, Bool.true_and] at eT
                refine iteDn (by rw [List.length_cons, List.length_cons]; omega) ?_
                have nw : ¬ (HT.sIx (hd :: nm :: rs).length 0 (some 2) = 0 ∧ HT.sIx (hd :: nm :: rs).length (hd :: nm :: rs).length none = (hd :: nm :: rs).length) := by
                  rintro ⟨z, _⟩
                  rw [show (2 : Int) = ((2 : Nat) : Int) from rfl, HT.sIx_nat, List.length_cons, List.length_cons] at z
                  omega
                have cut : cutV (hd :: nm :: rs) (some 2) none = rs := by
                  unfold cutV
                  rw [show (2 : Int) = ((2 : Nat) : Int) from rfl, HT.sIx_nat, HT.sIx_none, List.length_cons, List.length_cons, Nat.min_eq_left (by omega), List.drop_succ_cons, List.drop_succ_cons, List.drop_zero]
                  exact List.take_of_length_le (by omega)
                refine ⟨_, rfl, _, rfl, a, _, rfl, SqT.of e1, fun z => absurd z nw, fun _ p np => ?_⟩
                rw [cut]
                have s2 := grow (o := .tup rs) np
                have e2 : (upd H1 p (.tup rs)) p = some (.tup rs) := upd_same
                revert s2 e2
                generalize upd H1 p (.tup rs) = H2
                intro s2 e2
                refine ⟨p, rfl, ⟨_, SqT.of e2⟩, fun D hD => lc_tup (xs := rs) (fun i H' => Acc H2 D (((rs.take i).map (treeB H q)).map V.bl) H') (Acc.start hD) (fun i H' _ a => SqT.of (a.1 _ _ e2)) ?_ ?_⟩
                · intro i y H3 hy a3
                  refine ⟨rfl, ?_⟩
                  have my : y ∈ hd :: nm :: rs := List.mem_cons_of_mem _ (List.mem_cons_of_mem _ (List.mem_of_getElem? hy))
                  have s3 : Same H H3 := (s1.trans s2).trans a3.1
                  refine ⟨_, rfl, _, rfl, _, _, rfl, rfl, y, ?_, (hx y my).same s3, fun H4 s4 => ?_⟩
                  · have z : ((q + 1 : Nat) : Int) - 1 = (q : Int) := by omega
                    show [y, V.int (((q + 1 : Nat) : Int) - 1)] = [y, V.int q]
                    rw [z]
                  · have a4 := a3.on s4
                    refine ⟨_, a4.2.2, ?_, ?_⟩
                    · rw [List.length_map, List.length_map, List.length_take]
                      have : (3 : Nat) < sizeLine := by decide
                      omega
                    · rw [take_step _ hy, List.map_append]
                      have z : treeB H3 q y = treeB H q y := treeB_kp (.of s3) (hx y my)
                      rw [z]
                      exact a4.put
                · intro H3 a3
                  refine ⟨_, _, rfl, SqL.of a3.2.2, ?_⟩
                  have kk := k _ ((s1.trans s2).trans a3.1)
                  have z : rs.take rs.length = rs := List.take_of_length_le (Nat.le_refl _)
                  rw [eT] at kk
                  rw [z, all_map_id]
                  exact kk
              · refine iteD (by rw [List.length_cons, List.length_cons]; omega) ?_
                have kk := k _ s1
                rw [decide_eq_false c3, Bool.false_and] at eT
                rw [eT] at kk
                exact kk
            · have zO : isS hd "op" = false := decide_eq_false cO
              rw [zO, Bool.false_and, Bool.false_and] at eT
              rw [decide_eq_false cO]
              refine iteT ?_
              have kk := k _ s1
              rw [eT] at kk
              exact kk
      · have kk := k H (Same.refl H)
        rw [treeB_none nt] at kk
        exact ⟨_, rfl, _, _, _, _, _, rfl, ClsV.ty _, ty, kt, _, rfl, iteT (iteT kk)⟩
theorem fnok_false {j : Nat} {f : Addr} {fd : FuncData} {ps : List Str} : FnOk P w K mg base CX0 j f fd ps fun _ _ _ _ => False := ⟨fun _ _ _ _ h => h.elim, fun _ _ _ _ _ _ _ _ _ _ _ _ _ h => h.elim⟩
theorem ok_within {N m : Nat} (hN : N ≤ 1000) {f fN fB fI : Addr} {fd fdN fdB fdI : FuncData} (F : Fun K "is_tree_within" "is_tree_within" tWithin f fd) (T : Txt mg) (T2 : Txt2 mg) (bF : Binds K fd ["value", "room"] []) (gF : mg "is_tree_within" = some (.ref f))
    (GN : FnOk P w K mg base CX0 1 fN fdN ["value"] (spV N m nameB)) (kN : PySem.W.keepIn K (.ref fN) = true) (bN : Binds K fdN ["value"] []) (gN : mg "is_name" = some (.ref fN))
    (GB : FnOk P w K mg base CX0 3 fB fdB ["value", "least", "most"] (spBetween N m)) (kB : PySem.W.keepIn K (.ref fB) = true) (bB : Binds K fdB ["value", "least", "most"] []) (gB : mg "is_between" = some (.ref fB))
    (GI : FnOk P w K mg base CX0 2 fI fdI ["value"] (spV N m integB)) (kI : PySem.W.keepIn K (.ref fI) = true) (bI : Binds K fdI ["value"] []) (gI : mg "is_integer" = some (.ref fI)) :
    ∀ r, FnOk P w K mg base CX0 (3 + r + 1) f fd ["value", "room"] (spWithin N m r)
  | 0 => step_within hN F T T2 bF gF GN kN bN gN GB kB bB gB GI kI bI gI fnok_false fun q h => absurd h.symm (Nat.succ_ne_zero q)
  | r + 1 => step_within hN F T T2 bF gF GN kN bN gN GB kB bB gB GI kI bI gI (ok_within hN F T T2 bF gF GN kN bN gN GB kB bB gB GI kI bI gI r) fun q h => by
      obtain rfl : r = q := Nat.succ.inj h
      rfl
end
end K19
namespace K19
open PySem L2
open L2.My
theorem few_no {d : V} (h : integB d = false) : fewB d = false := by
  cases d with
  | int i =>
    have e30 : (10 : Int) ^ 30 = 1000000000000000000000000000000 := by decide
    have z : fewB (.int i) = (decide (0 ≤ i) && decide (i ≤ 3)) := rfl
    rw [z]
    have ci2 : ¬ (inB i = true) := by
      show ¬ (integB (.int i) = true)
      rw [h]
      exact Bool.false_ne_true
    rw [inB_iff, e30] at ci2
    by_cases c0 : 0 ≤ i
    · rw [decide_eq_false (show ¬ i ≤ 3 by omega), Bool.and_false]
    · rw [decide_eq_false c0, Bool.false_and]
  | _ => rfl
section
variable {P : Program} {w : World} {K : PySem.W.Frag} {mg : Str → Option Value} {base : Heap}
/-! ### _law_is_tree -/
end
end K19
namespace K19
open PySem L2
open L2.My
def tree4 (H : Hp) (v : V) : Bool := treeB H 4 v
def headAt (H : Hp) (v : V) : Bool := match tupV H v with
  | some (h :: _) => isS h "at"
  | _ => false
def isZero : V → Bool
  | .int i => decide (i = 0)
  | _ => false
def setB (H : Hp) : List V → Bool
  | [t] => tree4 H t && !headAt H t
  | _ => false
def storeB (H : Hp) : List V → Bool
  | [n, s, o, t] => nameB n && (integB s && (!isZero s && (integB o && tree4 H t)))
  | _ => false
def bodyB (H : Hp) : List V → Bool
  | hd :: nm :: r :: rs => nameB nm && (if isS hd "set" = true then setB H (r :: rs) else isS hd "store" && storeB H (r :: rs))
  | _ => false
def stateB (H : Hp) (v : V) : Bool := match tupV H v with
  | some xs => bodyB H xs
  | none => false
theorem stateB_tup {H : Hp} {a : Addr} {xs : List V} (e : H a = some (.tup xs)) : stateB H (.ref a) = bodyB H xs := by
  unfold stateB
  rw [tupV_of e]
theorem tree4_same {H H' : Hp} {N m : Nat} {v : V} (s : Same H H') (t : Tv H N m v) : tree4 H' v = tree4 H v := treeB_kp (.of s) t
theorem tree4_tup {H : Hp} {v : V} (h : tree4 H v = true) : ∃ a hd nm r, v = .ref a ∧ H a = some (.tup (hd :: nm :: r)) ∧ headAt H v = isS hd "at" := by
  unfold tree4 treeB at h
  cases v with
  | ref a =>
    cases e : tupV H (.ref a) with
    | none =>
      rw [e] at h
      cases h
    | some xs =>
      rw [e] at h
      have e2 : H a = some (.tup xs) := by
        simp only [tupV] at e
        split at e
        · rename_i ys q
          cases e
          exact q
        · cases e
      match xs, h, e, e2 with
      | hd :: nm :: r, _, e, e2 => exact ⟨a, hd, nm, r, rfl, e2, by simp only [headAt, e]⟩
  | _ => cases h
section
variable {P : Program} {w : World} {K : PySem.W.Frag} {mg : Str → Option Value} {base : Heap}
/-! ### is_tree -/
theorem scTree : FnScope ["value"] ["value"] (defScope tTree) := ⟨rfl, rfl, rfl, by decide +kernel, rfl, by decide +kernel, by decide +kernel⟩
theorem ok_tree {N m : Nat} {f fW : Addr} {fd fdW : FuncData} (F : Fun K "is_tree" "is_tree" tTree f fd) (T2 : Txt2 mg) (GW : FnOk P w K mg base CX0 8 fW fdW ["value", "room"] (spWithin N m 4)) (kW : PySem.W.keepIn K (.ref fW) = true) (bW : Binds K fdW ["value", "room"] []) (gW : mg "is_tree_within" = some (.ref fW)) :
    FnOk P w K mg base CX0 9 f fd ["value"] (spB N m tree4) := by
  obtain ⟨tl, ll⟩ := T2.levels
  refine F.ok scTree (fun vs H Q E h => ?_) (fun cdv A outer s H vs Q E hr h => ?_)
  · obtain ⟨x, rfl, _⟩ := h
    rfl
  · obtain ⟨x, rfl, it, k⟩ := h
    refine ⟨_, pss_one (ps_ret (pe_call GW hr rfl gW kW bW .nil pass0 (pa_cons (pv 0) (pa_cons (pe_glob (v := .int 4) rfl ll ⟨_, rfl⟩) pa_nil)))), ?_⟩
    exact ⟨_, rfl, x, rfl, it, fun H1 s1 => k _ s1⟩
/-! ### is_statement -/
theorem scState : FnScope ["value"] ["value"] (defScope tState) := ⟨rfl, rfl, rfl, by decide +kernel, rfl, by decide +kernel, by decide +kernel⟩
theorem ok_state {N m : Nat} (hN : N ≤ 1000) {f fN fI fT : Addr} {fd fdN fdI fdT : FuncData} (F : Fun K "is_statement" "is_statement" tState f fd) (T : Txt mg)
    (GN : FnOk P w K mg base CX0 1 fN fdN ["value"] (spV N m nameB)) (kN : PySem.W.keepIn K (.ref fN) = true) (bN : Binds K fdN ["value"] []) (gN : mg "is_name" = some (.ref fN))
    (GI : FnOk P w K mg base CX0 2 fI fdI ["value"] (spV N m integB)) (kI : PySem.W.keepIn K (.ref fI) = true) (bI : Binds K fdI ["value"] []) (gI : mg "is_integer" = some (.ref fI))
    (GT : FnOk P w K mg base CX0 9 fT fdT ["value"] (spB N m tree4)) (kT : PySem.W.keepIn K (.ref fT) = true) (bT : Binds K fdT ["value"] []) (gT : mg "is_tree" = some (.ref fT)) :
    FnOk P w K mg base CX0 10 f fd ["value"] (spB N m stateB) := by
  refine F.ok scState (fun vs H Q E h => ?_) (fun cdv A outer s H vs Q E hr h => ?_)
  · obtain ⟨x, rfl, _⟩ := h
    rfl
  · obtain ⟨x, rfl, tx, k⟩ := h
    have hu := Nat.lt_of_succ_lt (hu_of hr)
    have hr1 : Room 1 _ := hr.mono (by omega)
    have hr2 : Room 2 _ := hr.mono (by omega)
    refine ⟨_, pss_cons (ps_if (PW.pt (pw_or (pt_not (pt_val (pe_callB call_isi (by rfl) T.isi (by decide +kernel) (pa_cons (pv 0) (pa_cons (pe_bltn (v := .ty "tuple") (by rfl) T.tuple (by decide +kernel) rfl) pa_nil)))))
          (pw_or (pt_cmpR op_lt (pe_callB call_len_seq (by rfl) T.len PySem.boot_len (pa_cons (pv 0) pa_nil)) pe_int (nomark _))
          (pw_or1 (pt_not (pt_val (pe_call GN hr1 rfl gN kN bN .nil pass0 (pa_cons (pe_ix ix_tup (pv 0) pe_int (fun _ _ => rfl)) pa_nil))))))))
        (pss_one (ps_ret pe_bl)) pss_nil)
      (pss_cons (ps_if (pt_cmpR (op_eqX hu) (pe_ix ix_tup (pv 0) pe_int (fun _ _ => rfl)) pe_str (nomark _))
        (pss_one (ps_ret (pe_and (pe_cmpR op_eq (pe_callB call_len_seq (by rfl) T.len PySem.boot_len (pa_cons (pv 0) pa_nil)) pe_int (nomark _))
          (pe_and (pe_call GT hr rfl gT kT bT .nil pass0 (pa_cons (pe_ix ix_tup (pv 0) pe_int (fun _ _ => rfl)) pa_nil))
          (pe_one (pe_cmpR (op_neX hu) (pe_ix ix_tup (pe_ix ix_tup (pv 0) pe_int (fun _ _ => rfl)) pe_int (fun _ _ => rfl)) pe_str (nomark _))))))) pss_nil)
      (pss_cons (ps_if (PW.pt (pw_or (pt_cmpR (op_neX hu) (pe_ix ix_tup (pv 0) pe_int (fun _ _ => rfl)) pe_str (nomark _))
          (pw_or (pt_cmpR op_ne (pe_callB call_len_seq (by rfl) T.len PySem.boot_len (pa_cons (pv 0) pa_nil)) pe_int (nomark _))
          (pw_or1 (pt_not (pt_val (pe_call GN hr1 rfl gN kN bN .nil pass0 (pa_cons (pe_ix ix_tup (pv 0) pe_int (fun _ _ => rfl)) pa_nil))))))))
        (pss_one (ps_ret pe_bl)) pss_nil)
      (pss_one (ps_ret (pe_and (pe_call GI hr2 rfl gI kI bI .nil pass0 (pa_cons (pe_ix ix_tup (pv 0) pe_int (fun _ _ => rfl)) pa_nil))
        (pe_and (pe_cmpR op_ne (pe_ix ix_tup (pv 0) pe_int (fun _ _ => rfl)) pe_int (nomark _))
        (pe_and (pe_call GI hr2 rfl gI kI bI .nil pass0 (pa_cons (pe_ix ix_tup (pv 0) pe_int (fun _ _ => rfl)) pa_nil))
        (pe_one (pe_call GT hr rfl gT kT bT .nil pass0 (pa_cons (pe_ix ix_tup (pv 0) pe_int (fun _ _ => rfl)) pa_nil)))))))))), ?_⟩
    rcases tx.tupcase (K := K) with ⟨a, xs, rfl, e, l, hx⟩ | ⟨nt, u, ty, kt⟩
    · refine ⟨_, rfl, _, _, _, _, _, rfl, ClsV.ty _, .base (.tup e), kit_ty (r := true) (by decide +kernel), _, rfl, iteF ?_⟩
      refine ⟨_, rfl, a, xs, rfl, .inr (SqT.of e), _, _, rfl, rfl, _, rfl, ?_⟩
      have eT := stateB_tup e
      by_cases c3 : xs.length < 3
      · refine iteD (by omega) (iteT ?_)
        have kk := k H (Same.refl H)
        have z : bodyB H xs = false := by
          match xs, c3 with
          | [], _ => rfl
          | [_], _ => rfl
          | [_, _], _ => rfl
        rw [eT, z] at kk
        exact kk
      · refine iteDn (by omega) ?_
        match xs, e, l, hx, eT, c3 with
        | [], e, l, hx, eT, c3 => exact absurd (by decide) c3
        | [_], e, l, hx, eT, c3 => exact absurd (by show 1 < 3; decide) c3
        | [_, _], e, l, hx, eT, c3 => exact absurd (by show 2 < 3; decide) c3
        | hd :: nm :: r :: rs, e, l, hx, eT, c3 =>
          have eP : bodyB H (hd :: nm :: r :: rs) = (nameB nm && (if isS hd "set" = true then setB H (r :: rs) else isS hd "store" && storeB H (r :: rs))) := rfl
          rw [eP] at eT
          refine ⟨_, rfl, a, _, 1, nm, rfl, rfl, SqT.of e, atI_nat (j := 1) rfl, nm, rfl, hx nm (by simp), fun H1 s1 => ?_⟩
          have e1 := s1 _ _ e
          refine ⟨_, rfl, ?_⟩
          cases cn : nameB nm with
          | false =>
            refine iteT ?_
            have kk := k _ s1
            rw [eT, cn, Bool.false_and] at kk
            exact kk
          | true =>
            refine iteF ?_
            rw [cn, Bool.true_and] at eT
            refine ⟨_, rfl, a, _, 0, hd, rfl, rfl, SqT.of e1, atI_nat (j := 0) rfl, _, _, rfl, ((hx hd (by simp)).same s1).text, _, rfl, ?_⟩
            by_cases cS : strOf hd = some ("set" : Str)
            · have zS : isS hd "set" = true := decide_eq_true cS
              rw [if_pos zS] at eT
              refine iteD cS ⟨_, rfl, a, _, rfl, .inr (SqT.of e1), rfl, _, rfl, ?_⟩
              match rs, e, e1, l, hx, eT with
              | [], e, e1, l, hx, eT =>
                have eS : setB H [r] = (tree4 H r && !headAt H r) := rfl
                rw [eS] at eT
                refine iteD (by rfl) ⟨_, rfl, a, _, 2, r, rfl, rfl, SqT.of e1, atI_nat (j := 2) rfl, r, rfl, (hx r (by simp)).same s1, fun H2 s2 => ?_⟩
                refine ⟨_, rfl, ?_⟩
                have e2 := s2 _ _ e1
                rw [tree4_same s1 (hx r (by simp))]
                cases ct : tree4 H r with
                | false =>
                  have kk := k _ (s1.trans s2)
                  rw [eT, ct, Bool.false_and] at kk
                  exact iteF kk
                | true =>
                  rw [ct, Bool.true_and] at eT
                  obtain ⟨b, h2, n2, r2, rfl, eb, eh⟩ := tree4_tup ct
                  rw [eh] at eT
                  have s12 := s1.trans s2
                  refine iteT ⟨_, rfl, a, _, 2, _, rfl, rfl, SqT.of e2, atI_nat (j := 2) rfl, b, _, 0, h2, rfl, rfl, SqT.of (s12 _ _ eb), atI_nat (j := 0) rfl, strOf h2, _, rfl, ?_, ?_⟩
                  · have tb := hx (.ref b) (by simp)
                    cases tb with
                    | tup e4 _ h4 =>
                      rw [eb] at e4
                      cases e4
                      exact ((h4 h2 (by simp)).same s12).text
                    | lst e4 =>
                      rw [eb] at e4
                      cases e4
                    | dct e4 =>
                      rw [eb] at e4
                      cases e4
                  · have kk := k _ s12
                    rw [eT] at kk
                    exact kk
              | _ :: _, e, e1, l, hx, eT =>
                refine iteDn (fun z => ?_) ?_
                · have := V.int.inj z
                  rw [List.length_cons, List.length_cons, List.length_cons, List.length_cons] at this
                  omega
                · have kk := k _ s1
                  rw [eT] at kk
                  exact kk
            have zS : isS hd "set" = false := decide_eq_false cS
            rw [zS, if_neg Bool.false_ne_true] at eT
            refine iteDn cS ⟨_, rfl, a, _, 0, hd, rfl, rfl, SqT.of e1, atI_nat (j := 0) rfl, _, _, rfl, ((hx hd (by simp)).same s1).text, _, rfl, ?_⟩
            by_cases cO : strOf hd = some ("store" : Str)
            · have zO : isS hd "store" = true := decide_eq_true cO
              rw [zO, Bool.true_and] at eT
              refine iteNS cO ?_
              refine ⟨_, rfl, a, _, rfl, .inr (SqT.of e1), rfl, _, rfl, ?_⟩
              by_cases c6 : rs.length = 3
              · match rs, c6, e, e1, l, hx, eT with
                | [sv, ov, tv], _, e, e1, l, hx, eT =>
                  have eS : storeB H [r, sv, ov, tv] = (nameB r && (integB sv && (!isZero sv && (integB ov && tree4 H tv)))) := rfl
                  rw [eS] at eT
                  refine iteF ?_
                  refine ⟨_, rfl, a, _, 2, r, rfl, rfl, SqT.of e1, atI_nat (j := 2) rfl, r, rfl, (hx r (by simp)).same s1, fun H2 s2 => ?_⟩
                  refine ⟨_, rfl, ?_⟩
                  have e2 := s2 _ _ e1
                  have s12 := s1.trans s2
                  cases cr : nameB r with
                  | false =>
                    refine iteT ?_
                    have kk := k _ s12
                    rw [eT, cr, Bool.false_and] at kk
                    exact kk
                  | true =>
                    rw [cr, Bool.true_and] at eT
                    refine iteF ?_
                    refine ⟨_, rfl, a, _, 3, sv, rfl, rfl, SqT.of e2, atI_nat (j := 3) rfl, sv, rfl, (hx sv (by simp)).same s12, fun H3 s3 => ?_⟩
                    refine ⟨_, rfl, ?_⟩
                    have e3 := s3 _ _ e2
                    have s13 := s12.trans s3
                    cases cs : integB sv with
                    | false =>
                      refine iteF ?_
                      have kk := k _ s13
                      rw [eT, cs, Bool.false_and] at kk
                      exact kk
                    | true =>
                      rw [cs, Bool.true_and] at eT
                      match sv, cs, e, e1, e2, e3, hx, eT with
                      | .int i, cs, e, e1, e2, e3, hx, eT =>
                        refine iteT ⟨_, rfl, a, _, 3, .int i, rfl, rfl, SqT.of e3, atI_nat (j := 3) rfl, rfl, _, rfl, ?_⟩
                        have zz : isZero (.int i) = decide (V.int i = V.int 0) := by
                          show decide (i = 0) = _
                          apply Bool.eq_iff_iff.mpr
                          rw [decide_eq_true_eq, decide_eq_true_eq]
                          exact ⟨fun z => by rw [z], fun z => V.int.inj z⟩
                        rw [zz] at eT
                        cases cz : decide (V.int i = V.int 0) with
                        | true =>
                          refine iteF ?_
                          have kk := k _ s13
                          rw [eT, cz] at kk
                          exact kk
                        | false =>
                          rw [cz] at eT
                          refine iteT ?_
                          refine ⟨_, rfl, a, _, 4, ov, rfl, rfl, SqT.of e3, atI_nat (j := 4) rfl, ov, rfl, (hx ov (by simp)).same s13, fun H4 s4 => ?_⟩
                          refine ⟨_, rfl, ?_⟩
                          have e4 := s4 _ _ e3
                          have s14 := s13.trans s4
                          cases co : integB ov with
                          | false =>
                            refine iteF ?_
                            have kk := k _ s14
                            rw [eT, co] at kk
                            exact kk
                          | true =>
                            refine iteT ⟨_, rfl, a, _, 5, tv, rfl, rfl, SqT.of e4, atI_nat (j := 5) rfl, tv, rfl, (hx tv (by simp)).same s14, fun H5 s5 => ?_⟩
                            rw [tree4_same s14 (hx tv (by simp))]
                            have kk := k _ (s14.trans s5)
                            rw [eT, co] at kk
                            exact kk
              · have z : storeB H (r :: rs) = false := by
                  match rs, c6 with
                  | [], _ => rfl
                  | [_], _ => rfl
                  | [_, _], _ => rfl
                  | [_, _, _], c => exact absurd rfl c
                  | _ :: _ :: _ :: _ :: _, _ => rfl
                have ne : ¬ V.int (((hd :: nm :: r :: rs).length : Nat) : Int) = V.int 6 := fun z => by
                  have := V.int.inj z
                  rw [List.length_cons, List.length_cons, List.length_cons] at this
                  omega
                rw [decide_eq_false ne]
                refine iteT (iteT ?_)
                have kk := k _ s1
                rw [eT, z] at kk
                exact kk
            · have zO : isS hd "store" = false := decide_eq_false cO
              rw [zO, Bool.false_and] at eT
              rw [decide_eq_false cO]
              refine iteT (iteT ?_)
              have kk := k _ s1
              rw [eT] at kk
              exact kk
    · have kk := k H (Same.refl H)
      have z : stateB H x = false := by
        unfold stateB
        rw [nt]
      rw [z] at kk
      exact ⟨_, rfl, _, _, _, _, _, rfl, ClsV.ty _, ty, kt, _, rfl, iteT (iteT kk)⟩
end
end K19
namespace K19
open PySem L2
open L2.My
def ctGo (f : Nat → V → Option Nat) (most : Nat) : Nat → List V → Option Nat
  | t, [] => some t
  | t, s :: r => match f (most - t) s with
    | none => none
    | some k => ctGo f most (t + k) r
def cwStore (f : Nat → V → Option Nat) (most : Nat) : List V → Option Nat
  | [s] => ctGo f most 1 [s]
  | _ => none
def cwOp (f : Nat → V → Option Nat) (most : Nat) (hd : V) : List V → Option Nat
  | [] => none
  | nm :: rs => if isS hd "op" = true ∧ rs.length ≤ 3 ∧ nameB nm = true then ctGo f most 1 rs else none
def cwIn (f : Nat → V → Option Nat) (most : Nat) (root : Bool) : List V → Option Nat
  | [] => none
  | hd :: tl => if isTag ((hd :: tl).map strOf) "hole" = true then some 0 else if most = 0 then none else if isTag ((hd :: tl).map strOf) "load" = true then some 1
    else if (isS hd "store" && root) = true then cwStore f most tl else cwOp f most hd tl
def cw (H : Hp) : Nat → Nat → V → Bool → Option Nat
  | 0, _, _, _ => none
  | d + 1, most, v, root => match tupV H v with
    | some xs => cwIn (fun q u => cw H d q u false) most root xs
    | none => none
theorem ctGo_congr {f g : Nat → V → Option Nat} {q : Nat} : ∀ {l : List V} {t : Nat}, 1 ≤ t → (∀ t u, 1 ≤ t → u ∈ l → f (q - t) u = g (q - t) u) → ctGo f q t l = ctGo g q t l
  | [], _, _, _ => rfl
  | s :: r, t, ht, h => by
    simp only [ctGo]
    rw [h t s ht (List.mem_cons_self ..)]
    cases g (q - t) s with
    | none => rfl
    | some k => exact ctGo_congr (by omega) fun t u ht hu => h t u ht (List.mem_cons_of_mem _ hu)
theorem cwIn_congr {f g : Nat → V → Option Nat} {q : Nat} {root : Bool} {xs : List V} (h : q ≠ 0 → ∀ t u, 1 ≤ t → u ∈ xs → f (q - t) u = g (q - t) u) : cwIn f q root xs = cwIn g q root xs := by
  match xs, h with
  | [], _ => rfl
  | hd :: tl, h =>
    simp only [cwIn]
    by_cases q0 : q = 0
    · simp [q0]
    · have h := h q0
      match tl, h with
      | [], _ => rfl
      | [s], h =>
        have e0 := h 1 s (Nat.le_refl 1) (by simp)
        simp only [cwStore, cwOp, ctGo, e0]
      | a :: b :: r, h =>
        have e1 := ctGo_congr (f := f) (g := g) (q := q) (l := b :: r) (Nat.le_refl 1) fun t u ht hu => h t u ht (List.mem_cons_of_mem _ (List.mem_cons_of_mem _ hu))
        simp only [cwStore, cwOp, e1]
theorem cw_fuel {H : Hp} : ∀ {d e q : Nat} {u : V} {r : Bool}, q + 1 ≤ d → q + 1 ≤ e → cw H d q u r = cw H e q u r
  | 0, _, _, _, _, h, _ => absurd h (by omega)
  | _, 0, _, _, _, _, h => absurd h (by omega)
  | d + 1, e + 1, q, u, r, hd, he => by
    simp only [cw]
    cases tupV H u with
    | none => rfl
    | some xs => exact cwIn_congr fun q0 t u ht _ => cw_fuel (by omega) (by omega)
theorem ctGo_le {f : Nat → V → Option Nat} {q : Nat} : ∀ {l : List V} {t k : Nat}, t ≤ q → (∀ t u k, f (q - t) u = some k → k ≤ q - t) → ctGo f q t l = some k → k ≤ q
  | [], t, k, ht, _, h => by
    cases h
    exact ht
  | s :: r, t, k, ht, hf, h => by
    simp only [ctGo] at h
    cases e : f (q - t) s with
    | none =>
      rw [e] at h
      cases h
    | some j =>
      rw [e] at h
      have := hf t s j e
      exact ctGo_le (by omega) hf h
theorem cw_le {H : Hp} : ∀ {d q k : Nat} {u : V} {r : Bool}, cw H d q u r = some k → k ≤ q
  | 0, _, _, _, _, h => by cases h
  | d + 1, q, k, u, r, h => by
    simp only [cw] at h
    cases e : tupV H u with
    | none =>
      rw [e] at h
      cases h
    | some xs =>
      rw [e] at h
      have go : ∀ l, ctGo (fun q u => cw H d q u false) q 1 l = some k → q ≠ 0 → k ≤ q := fun l hl q0 => ctGo_le (by omega) (fun t u k hk => cw_le hk) hl
      match xs, h with
      | hd :: tl, h =>
        simp only [cwIn] at h
        split at h
        · cases h
          exact Nat.zero_le _
        split at h
        · cases h
        rename_i q0
        split at h
        · cases h
          omega
        split at h
        · match tl, h with
          | [s], h => exact go _ h q0
        · match tl, h with
          | nm :: rs, h =>
            simp only [cwOp] at h
            split at h
            · exact go _ h q0
            · cases h
end K19
namespace K19
open PySem L2
open L2.My
def optV : Option Nat → V
  | none => .non
  | some k => .int (k : Nat)
theorem cw_kp {H H' : Hp} {N : Nat} (s : Kp H H') : ∀ {d q k : Nat} {v : V} {r : Bool}, Tv H N k v → cw H' d q v r = cw H d q v r
  | 0, _, _, _, _, _ => rfl
  | d + 1, q, k, v, r, t => by
    simp only [cw]
    rw [tupV_kp t s]
    cases t with
    | tup e l h =>
      rw [tupV_of e]
      exact cwIn_congr fun _ _ u _ hu => cw_kp s (h u hu)
    | lst e => simp only [tupV, e]
    | dct e => simp only [tupV, e]
    | _ => rfl
section
variable {P : Program} {w : World} {K : PySem.W.Frag} {mg : Str → Option Value} {base : Heap}
def spWorking (N k M : Nat) : Sp := fun vs H Q _ => ∃ v m root, vs = [v, .int ((m : Nat) : Int), .bl root] ∧ m ≤ M ∧ Tv H N k v ∧ ∀ H', Same H H' → Q (optV (cw H (m + 1) m v root)) H'
def spTogether (N k M : Nat) : Sp := fun vs H Q _ => ∃ a ss m, vs = [.ref a, .int ((m : Nat) : Int)] ∧ 1 ≤ m ∧ m ≤ M ∧ H a = some (.tup ss) ∧ (∀ s ∈ ss, Tv H N k s) ∧ ∀ H', Same H H' → Q (optV (ctGo (fun q u => cw H m q u false) m 1 ss)) H'
theorem scTogether : FnScope ["shapes", "most", "total", "shape", "many"] ["shapes", "most"] (defScope tTogether) := ⟨rfl, rfl, rfl, by decide +kernel, rfl, by decide +kernel, by decide +kernel⟩
theorem step_together {N k M : Nat} (hM : M ≤ 100) {f fW : Addr} {fd fdW : FuncData} (F : Fun K "count_together" "count_together" tTogether f fd)
    (GW : FnOk P w K mg base CX0 (2 * M + 2) fW fdW ["value", "most", "is_root"] (spWorking N k M)) (kW : PySem.W.keepIn K (.ref fW) = true) (bW : Binds K fdW ["value", "most", "is_root"] []) (gW : mg "count_working" = some (.ref fW)) :
    FnOk P w K mg base CX0 (2 * M + 2 + 1) f fd ["shapes", "most"] (spTogether N k (M + 1)) := by
  refine F.ok scTogether (fun vs H Q E h => ?_) (fun cdv A outer s H vs Q E hr h => ?_)
  · obtain ⟨a, ss, m, rfl, _⟩ := h
    rfl
  · obtain ⟨a, ss, m, rfl, m1, mM, e, ts, kk⟩ := h
    refine ⟨_, pss_cons (ps_set (i := 2) scTogether.nd rfl (.inl rfl) pe_int)
      (pss_cons (ps_for PassesOwn.never rfl (pi_tup (pv 0)) (pg_name (i := 3) scTogether.nd rfl (.inl rfl))
        (pss_cons (ps_set (i := 4) scTogether.nd rfl (.inl rfl) (pe_call GW hr rfl gW kW bW .nil pass0 (pa_cons (pv 3) (pa_cons (pe_op op_sub (pv 1) (pv 2)) (pa_cons pe_bl pa_nil)))))
        (pss_cons (ps_if (pt_cmpR op_isN (pv 4) pe_non (nomark _)) (pss_one (ps_ret pe_non)) pss_nil)
        (pss_one (ps_aug (i := 2) scTogether.nd rfl (.inl rfl) (pv 4) ip_add)))))
      (pss_one (ps_ret (pv 2)))), ?_⟩
    refine ⟨_, rfl, a, rfl, ⟨_, SqT.of e⟩, for_tup (xs := ss) (fun i σ H' => ∃ t o3 o4, σ = [some (.ref a), some (.int (m : Int)), some (.int ((t : Nat) : Int)), o3, o4] ∧ 1 ≤ t ∧ t ≤ m ∧ Same H H' ∧
      ctGo (fun q u => cw H m q u false) m 1 ss = ctGo (fun q u => cw H m q u false) m t (ss.drop i))
      ⟨1, none, none, rfl, Nat.le_refl 1, m1, Same.refl H, rfl⟩ (fun i σ H' _ ⟨_, _, _, _, _, _, s, _⟩ => SqT.of (s _ _ e)) ?_ ?_⟩
    · rintro i x σ H1 hx ⟨t, o3, o4, rfl, t1, tm, s1, eq⟩
      obtain ⟨hi, hx2⟩ := List.getElem?_eq_some_iff.mp hx
      have ed : ss.drop i = x :: ss.drop (i + 1) := by rw [← hx2]; exact List.drop_eq_getElem_cons hi
      have tx := ts x (List.mem_of_getElem? hx)
      rw [ed] at eq
      refine ⟨_, rfl, _, rfl, _, rfl, _, _, rfl, rfl, x, m - t, false, ?_, by omega, tx.same s1, fun H2 s2 => ?_⟩
      · have z : (m : Int) - (t : Int) = ((m - t : Nat) : Int) := by omega
        show [x, V.int ((m : Int) - (t : Int)), V.bl false] = _
        rw [z]
      rw [cw_kp (.of s1) tx, cw_fuel (e := m) (Nat.le_refl _) (by omega)]
      simp only [ctGo] at eq
      refine ⟨_, rfl, rfl, _, rfl, ?_⟩
      cases c : cw H m (m - t) x false with
      | none =>
        rw [c] at eq
        have k2 := kk _ (s1.trans s2)
        rw [eq] at k2
        exact iteD rfl k2
      | some j =>
        rw [c] at eq
        refine iteDn (fun z => by cases z) ?_
        have := cw_le c
        refine ⟨_, rfl, _, rfl, _, _, rfl, rfl, ?_⟩
        refine ⟨t + j, some x, some (.int ((j : Nat) : Int)), ?_, by omega, by omega, s1.trans s2, eq⟩
        have z : ((t : Nat) : Int) + ((j : Nat) : Int) = ((t + j : Nat) : Int) := by omega
        show [some (V.ref a), some (V.int (m : Int)), some (V.int ((t : Int) + (j : Int))), some x, some (V.int (j : Int))] = _
        rw [z]
    · rintro σ H1 ⟨t, o3, o4, rfl, t1, tm, s1, eq⟩
      rw [List.drop_eq_nil_of_le (Nat.le_refl _)] at eq
      have k2 := kk _ s1
      rw [eq] at k2
      exact ⟨_, rfl, k2⟩
theorem texts {H : Hp} {N m : Nat} : ∀ {xs : List V}, (∀ y ∈ xs, Tv H N m y) → Texts H xs (xs.map strOf)
  | [], _ => .nil
  | x :: xs, h => .cons (h x (List.mem_cons_self ..)).text (texts fun y hy => h y (List.mem_cons_of_mem _ hy))
theorem sl_go {H : Hp} {a : Addr} {xs : List V} {lo hi : Option Int} {Q : VK} (e : H a = some (.tup xs)) (k : ∀ b H', Same H H' → H' b = some (.tup (cutV xs lo hi)) → Q (.ref b) H') : rSlA K (.ref a) lo hi H Q := by
  refine ⟨a, xs, rfl, SqT.of e, fun z => k a H (Same.refl H) ?_, fun _ p np => k p _ (grow np) upd_same⟩
  have c : cutV xs lo hi = xs := by
    unfold cutV
    rw [z.1, z.2]
    simp
  rw [c]
  exact e
theorem cut1 {hd : V} {tl : List V} : cutV (hd :: tl) (some 1) none = tl := by
  unfold cutV
  rw [show (1 : Int) = ((1 : Nat) : Int) from rfl, HT.sIx_nat, HT.sIx_none, List.length_cons, Nat.min_eq_left (by omega), List.drop_succ_cons, List.drop_zero]
  exact List.take_of_length_le (by omega)
theorem cut2 {hd nm : V} {rs : List V} : cutV (hd :: nm :: rs) (some 2) none = rs := by
  unfold cutV
  rw [show (2 : Int) = ((2 : Nat) : Int) from rfl, HT.sIx_nat, HT.sIx_none, List.length_cons, List.length_cons, Nat.min_eq_left (by omega), List.drop_succ_cons, List.drop_succ_cons, List.drop_zero]
  exact List.take_of_length_le (by omega)
theorem scWorking : FnScope ["value", "most", "is_root"] ["value", "most", "is_root"] (defScope tWorking) := ⟨rfl, rfl, rfl, by decide +kernel, rfl, by decide +kernel, by decide +kernel⟩
theorem step_working {N k M : Nat} (hN : N ≤ 1000) {spT : Sp} {f fT fN : Addr} {fd fdT fdN : FuncData} (F : Fun K "count_working" "count_working" tWorking f fd) (T : Txt mg) (hS : ∃ t, mg "MAX_SHAPES" = some (.int 3 t))
    (GN : FnOk P w K mg base CX0 1 fN fdN ["value"] (spV N k nameB)) (kN : PySem.W.keepIn K (.ref fN) = true) (bN : Binds K fdN ["value"] []) (gN : mg "is_name" = some (.ref fN))
    (GT : FnOk P w K mg base CX0 (2 * M + 1) fT fdT ["shapes", "most"] spT) (kT : PySem.W.keepIn K (.ref fT) = true) (bT : Binds K fdT ["shapes", "most"] []) (gT : mg "count_together" = some (.ref fT)) (hT : M ≠ 0 → spT = spTogether N k M) :
    FnOk P w K mg base CX0 (2 * M + 1 + 1) f fd ["value", "most", "is_root"] (spWorking N k M) := by
  obtain ⟨tS, lS⟩ := hS
  refine F.ok scWorking (fun vs H Q E h => ?_) (fun cdv A outer s H vs Q E hr h => ?_)
  · obtain ⟨v, m, root, rfl, _⟩ := h
    rfl
  · obtain ⟨v, m, root, rfl, mM, tx, kk⟩ := h
    have hr1 : Room 1 _ := hr.mono (by omega)
    have hu := hu_of hr
    have hu0 := Nat.lt_of_succ_lt hu
    refine ⟨_, pss_cons (ps_if (PW.pt (pw_or (pt_not (pt_val (pe_callB call_isi (by rfl) T.isi (by decide +kernel) (pa_cons (pv 0) (pa_cons (pe_bltn (v := .ty "tuple") (by rfl) T.tuple (by decide +kernel) rfl) pa_nil)))))
          (pw_or1 (pt_cmpR op_eq (pe_callB call_len_seq (by rfl) T.len PySem.boot_len (pa_cons (pv 0) pa_nil)) pe_int (nomark _)))))
        (pss_one (ps_ret pe_non)) pss_nil)
      (pss_cons (ps_if (pt_cmpR (op_eqTag hu) (pv 0) (pe_tup (pa_cons pe_str pa_nil)) (nomark _)) (pss_one (ps_ret pe_int)) pss_nil)
      (pss_cons (ps_if (pt_cmpR op_eq (pv 1) pe_int (nomark _)) (pss_one (ps_ret pe_non)) pss_nil)
      (pss_cons (ps_if (pt_cmpR (op_eqTag hu) (pv 0) (pe_tup (pa_cons pe_str pa_nil)) (nomark _)) (pss_one (ps_ret pe_int)) pss_nil)
      (pss_cons (ps_if (PW.pt (pw_and (pt_cmpR (op_eqX hu0) (pe_ix ix_tup (pv 0) pe_int (fun _ _ => rfl)) pe_str (nomark _)) (pw_and1 (pt_val (pv 2)))))
        (pss_one (ps_ret (pe_ifExp (pt_cmpR op_eq (pe_callB call_len_seq (by rfl) T.len PySem.boot_len (pa_cons (pv 0) pa_nil)) pe_int (nomark _)) (pe_call GT hr rfl gT kT bT .nil pass0 (pa_cons (pe_slice sl_tupA (pv 0) (po_some pe_int) po_none) (pa_cons (pv 1) pa_nil))) pe_non))) pss_nil)
      (pss_cons (ps_if (PW.pt (pw_or (pt_cmpR (op_neX hu0) (pe_ix ix_tup (pv 0) pe_int (fun _ _ => rfl)) pe_str (nomark _))
          (pw_or (pt_not (pt_chain op_le op_le pe_int (pe_callB call_len_seq (by rfl) T.len PySem.boot_len (pa_cons (pv 0) pa_nil)) (pe_op op_add pe_int (pe_glob (v := .int 3) rfl lS ⟨_, rfl⟩))))
          (pw_or1 (pt_not (pt_val (pe_call GN hr1 rfl gN kN bN .nil pass0 (pa_cons (pe_ix ix_tup (pv 0) pe_int (fun _ _ => rfl)) pa_nil))))))))
        (pss_one (ps_ret pe_non)) pss_nil)
      (pss_one (ps_ret (pe_call GT hr rfl gT kT bT .nil pass0 (pa_cons (pe_slice sl_tupA (pv 0) (po_some pe_int) po_none) (pa_cons (pv 1) pa_nil)))))))))), ?_⟩
    have lp : ∀ n : Nat, n ≤ 10 → n ≤ sizeLine := fun n h => Nat.le_trans h (by decide)
    rcases tx.tupcase (K := K) with ⟨a, xs, rfl, e, l, hx⟩ | ⟨nt, u, ty, kt⟩
    · refine ⟨_, rfl, _, _, _, _, _, rfl, ClsV.ty _, .base (.tup e), kit_ty (r := true) (by decide +kernel), _, rfl, iteF ?_⟩
      have eC : cw H (m + 1) m (.ref a) root = cwIn (fun q u => cw H m q u false) m root xs := by
        simp only [cw]
        rw [tupV_of e]
      refine ⟨_, rfl, a, xs, rfl, .inr (SqT.of e), rfl, _, rfl, ?_⟩
      match xs, e, l, hx, eC with
      | [], e, l, hx, eC =>
        have k2 := kk H (Same.refl H)
        rw [eC] at k2
        exact iteD rfl k2
      | hd :: tl, e, l, hx, eC =>
        refine iteDn (fun z => by have := V.int.inj z; rw [List.length_cons] at this; omega) ?_
        have eI : cwIn (fun q u => cw H m q u false) m root (hd :: tl) = if isTag ((hd :: tl).map strOf) "hole" = true then some 0 else if m = 0 then none else if isTag ((hd :: tl).map strOf) "load" = true then some 1
          else if (isS hd "store" && root) = true then cwStore (fun q u => cw H m q u false) m tl else cwOp (fun q u => cw H m q u false) m hd tl := rfl
        rw [eI] at eC
        have two : ∀ {H' : Hp}, Same H H' → Texts H' (hd :: tl) ((hd :: tl).map strOf) := fun s => texts fun y hy => (hx y hy).same s
        refine ⟨_, rfl, lp 1 (by decide), fun t nt => ?_⟩
        have s1 : Same H (upd H t (.tup [.str "hole"])) := grow nt
        have e1 : (upd H t (.tup [.str "hole"])) t = some (.tup [.str "hole"]) := upd_same
        revert s1 e1
        generalize upd H t (.tup [.str "hole"]) = H1
        intro s1 e1
        refine ⟨a, t, _, _, "hole", rfl, rfl, s1 _ _ e, e1, two s1, _, rfl, ?_⟩
        cases c1 : isTag ((hd :: tl).map strOf) "hole" with
        | true =>
          have k2 := kk _ s1
          rw [eC, if_pos c1] at k2
          exact iteT k2
        | false =>
          rw [if_neg (by rw [c1]; decide)] at eC
          refine iteF ⟨_, rfl, rfl, _, rfl, ?_⟩
          by_cases m0 : m = 0
          · have k2 := kk _ s1
            rw [eC, if_pos m0] at k2
            exact iteD (by rw [m0]; rfl) k2
          rw [if_neg m0] at eC
          have sT : spT = spTogether N k M := hT (by omega)
          subst sT
          refine iteDn (fun z => m0 (by have := V.int.inj z; omega)) ?_
          refine ⟨_, rfl, lp 1 (by decide), fun t2 nt2 => ?_⟩
          have s2 : Same H (upd H1 t2 (.tup [.str "load"])) := s1.trans (grow nt2)
          have e2 : (upd H1 t2 (.tup [.str "load"])) t2 = some (.tup [.str "load"]) := upd_same
          revert s2 e2
          generalize upd H1 t2 (.tup [.str "load"]) = H2
          intro s2 e2
          have ea := s2 _ _ e
          refine ⟨a, t2, _, _, "load", rfl, rfl, ea, e2, two s2, _, rfl, ?_⟩
          cases c2 : isTag ((hd :: tl).map strOf) "load" with
          | true =>
            have k2 := kk _ s2
            rw [eC, if_pos c2] at k2
            exact iteT k2
          | false =>
            rw [if_neg (by rw [c2]; decide)] at eC
            have call : ∀ (ss : List V) (b : Addr) (H3 : Hp), (∀ y ∈ ss, y ∈ hd :: tl) → Same H2 H3 → H3 b = some (.tup ss) → (∀ H', Same H H' → Q (optV (ctGo (fun q u => cw H m q u false) m 1 ss)) H') → spTogether N k M [.ref b, .int (m : Int)] H3 Q E0 := fun ss b H3 hs s3 eb kq => by
              have s03 := s2.trans s3
              refine ⟨b, ss, m, rfl, by omega, mM, eb, fun y hy => (hx y (hs y hy)).same s03, fun H4 s4 => ?_⟩
              have z : ctGo (fun q u => cw H3 m q u false) m 1 ss = ctGo (fun q u => cw H m q u false) m 1 ss := ctGo_congr (Nat.le_refl 1) fun t u _ hu => cw_kp (.of s03) (hx u (hs u hu))
              rw [z]
              exact kq _ (s03.trans s4)
            refine iteF ⟨_, rfl, a, _, 0, hd, rfl, rfl, SqT.of ea, atI_nat (j := 0) rfl, strOf hd, _, rfl, ((hx hd (by simp)).same s2).text, _, rfl, ?_⟩
            by_cases cs : strOf hd = some ("store" : Str)
            · have zs : isS hd "store" = true := decide_eq_true cs
              refine iteD cs ⟨_, rfl, root, rfl, ?_⟩
              cases root with
              | true =>
                rw [zs, Bool.true_and, if_pos rfl] at eC
                refine iteT ⟨_, rfl, a, _, rfl, .inr (SqT.of ea), rfl, _, rfl, ?_⟩
                match tl, e, l, hx, eC, c1, c2, ea, call with
                | [], e, l, hx, eC, c1, c2, ea, call =>
                  have k2 := kk _ s2
                  rw [eC] at k2
                  exact iteDn (fun z => by cases z) k2
                | [s1'], e, l, hx, eC, c1, c2, ea, call =>
                  refine iteD (by rfl) ⟨_, rfl, _, rfl, ?_⟩
                  unfold tNoPart
                  refine sl_go ea fun b H4 s4 eb => ⟨_, rfl, call [s1'] b H4 (fun y hy => List.mem_cons_of_mem _ hy) s4 (by rw [eb, cut1]) fun H' s' => ?_⟩
                  have k2 := kk _ s'
                  rw [eC] at k2
                  exact k2
                | _ :: _ :: _, e, l, hx, eC, c1, c2, ea, call =>
                  have k2 := kk _ s2
                  rw [eC] at k2
                  exact iteDn (fun z => by have := V.int.inj z; rw [List.length_cons, List.length_cons, List.length_cons] at this; omega) k2
              | false =>
                rw [zs, Bool.and_false, if_neg Bool.false_ne_true] at eC
                refine iteF ?_
                refine ⟨_, rfl, a, _, 0, hd, rfl, rfl, SqT.of ea, atI_nat (j := 0) rfl, strOf hd, _, rfl, ((hx hd (by simp)).same s2).text, _, rfl, ?_⟩
                by_cases co : strOf hd = some ("op" : Str)
                · have zo : isS hd "op" = true := decide_eq_true co
                  refine iteNS co ⟨_, rfl, a, _, rfl, .inr (SqT.of ea), _, _, rfl, rfl, _, rfl, ?_⟩
                  match tl, e, l, hx, eC, c1, c2, ea, call with
                  | [], e, l, hx, eC, c1, c2, ea, call =>
                    have k2 := kk _ s2
                    rw [eC] at k2
                    exact iteDn (by show ¬ ((2 : Int) ≤ 1); decide) ⟨_, rfl, iteT (iteT k2)⟩
                  | nm :: rs, e, l, hx, eC, c1, c2, ea, call =>
                    have eO : cwOp (fun q u => cw H m q u false) m hd (nm :: rs) = if isS hd "op" = true ∧ rs.length ≤ 3 ∧ nameB nm = true then ctGo (fun q u => cw H m q u false) m 1 rs else none := rfl
                    rw [eO] at eC
                    refine iteD (by rw [List.length_cons, List.length_cons]; omega) ⟨_, _, rfl, rfl, _, _, rfl, rfl, _, rfl, ?_⟩
                    by_cases l3 : rs.length ≤ 3
                    · rw [decide_eq_true (show (((hd :: nm :: rs).length : Nat) : Int) ≤ 2 + 3 by rw [List.length_cons, List.length_cons]; omega)]
                      refine iteF ⟨_, rfl, a, _, 1, nm, rfl, rfl, SqT.of ea, atI_nat (j := 1) rfl, nm, rfl, (hx nm (by simp)).same s2, fun H3 s3 => ?_⟩
                      refine ⟨_, rfl, ?_⟩
                      cases cn : nameB nm with
                      | false =>
                        have k2 := kk _ (s2.trans s3)
                        rw [eC, if_neg (fun z => by have := z.2.2; rw [cn] at this; cases this)] at k2
                        exact iteT k2
                      | true =>
                        rw [if_pos ⟨zo, l3, cn⟩] at eC
                        refine iteF ⟨_, rfl, _, rfl, ?_⟩
                        unfold tNoPart
                        refine sl_go (s3 _ _ ea) fun b H4 s4 eb => ⟨_, rfl, call rs b H4 (fun y hy => List.mem_cons_of_mem _ (List.mem_cons_of_mem _ hy)) (s3.trans s4) (by rw [eb, cut2]) fun H' s' => ?_⟩
                        have k2 := kk _ s'
                        rw [eC] at k2
                        exact k2
                    · rw [decide_eq_false (show ¬ (((hd :: nm :: rs).length : Nat) : Int) ≤ 2 + 3 by rw [List.length_cons, List.length_cons]; omega)]
                      have k2 := kk _ s2
                      rw [eC, if_neg (fun z => l3 z.2.1)] at k2
                      exact iteT (iteT k2)
                · have k2 := kk _ s2
                  have zo : isS hd "op" = false := decide_eq_false co
                  have eO : cwOp (fun q u => cw H m q u false) m hd tl = none := by
                    match tl with
                    | [] => rfl
                    | nm :: rs =>
                      show (if isS hd "op" = true ∧ rs.length ≤ 3 ∧ nameB nm = true then ctGo (fun q u => cw H m q u false) m 1 rs else none) = none
                      rw [zo, if_neg (fun z => by cases z.1)]
                  rw [eC, eO] at k2
                  rw [decide_eq_false co]
                  exact iteT (iteT k2)
            · have zs : isS hd "store" = false := decide_eq_false cs
              rw [zs, Bool.false_and, if_neg Bool.false_ne_true] at eC
              refine iteDn cs ?_
              refine ⟨_, rfl, a, _, 0, hd, rfl, rfl, SqT.of ea, atI_nat (j := 0) rfl, strOf hd, _, rfl, ((hx hd (by simp)).same s2).text, _, rfl, ?_⟩
              by_cases co : strOf hd = some ("op" : Str)
              · have zo : isS hd "op" = true := decide_eq_true co
                refine iteNS co ⟨_, rfl, a, _, rfl, .inr (SqT.of ea), _, _, rfl, rfl, _, rfl, ?_⟩
                match tl, e, l, hx, eC, c1, c2, ea, call with
                | [], e, l, hx, eC, c1, c2, ea, call =>
                  have k2 := kk _ s2
                  rw [eC] at k2
                  exact iteDn (by show ¬ ((2 : Int) ≤ 1); decide) ⟨_, rfl, iteT (iteT k2)⟩
                | nm :: rs, e, l, hx, eC, c1, c2, ea, call =>
                  have eO : cwOp (fun q u => cw H m q u false) m hd (nm :: rs) = if isS hd "op" = true ∧ rs.length ≤ 3 ∧ nameB nm = true then ctGo (fun q u => cw H m q u false) m 1 rs else none := rfl
                  rw [eO] at eC
                  refine iteD (by rw [List.length_cons, List.length_cons]; omega) ⟨_, _, rfl, rfl, _, _, rfl, rfl, _, rfl, ?_⟩
                  by_cases l3 : rs.length ≤ 3
                  · rw [decide_eq_true (show (((hd :: nm :: rs).length : Nat) : Int) ≤ 2 + 3 by rw [List.length_cons, List.length_cons]; omega)]
                    refine iteF ⟨_, rfl, a, _, 1, nm, rfl, rfl, SqT.of ea, atI_nat (j := 1) rfl, nm, rfl, (hx nm (by simp)).same s2, fun H3 s3 => ?_⟩
                    refine ⟨_, rfl, ?_⟩
                    cases cn : nameB nm with
                    | false =>
                      have k2 := kk _ (s2.trans s3)
                      rw [eC, if_neg (fun z => by have := z.2.2; rw [cn] at this; cases this)] at k2
                      exact iteT k2
                    | true =>
                      rw [if_pos ⟨zo, l3, cn⟩] at eC
                      refine iteF ⟨_, rfl, _, rfl, ?_⟩
                      unfold tNoPart
                      refine sl_go (s3 _ _ ea) fun b H4 s4 eb => ⟨_, rfl, call rs b H4 (fun y hy => List.mem_cons_of_mem _ (List.mem_cons_of_mem _ hy)) (s3.trans s4) (by rw [eb, cut2]) fun H' s' => ?_⟩
                      have k2 := kk _ s'
                      rw [eC] at k2
                      exact k2
                  · rw [decide_eq_false (show ¬ (((hd :: nm :: rs).length : Nat) : Int) ≤ 2 + 3 by rw [List.length_cons, List.length_cons]; omega)]
                    have k2 := kk _ s2
                    rw [eC, if_neg (fun z => l3 z.2.1)] at k2
                    exact iteT (iteT k2)
              · have k2 := kk _ s2
                have zo : isS hd "op" = false := decide_eq_false co
                have eO : cwOp (fun q u => cw H m q u false) m hd tl = none := by
                  match tl with
                  | [] => rfl
                  | nm :: rs =>
                    show (if isS hd "op" = true ∧ rs.length ≤ 3 ∧ nameB nm = true then ctGo (fun q u => cw H m q u false) m 1 rs else none) = none
                    rw [zo, if_neg (fun z => by cases z.1)]
                rw [eC, eO] at k2
                rw [decide_eq_false co]
                exact iteT (iteT k2)
    · have k2 := kk H (Same.refl H)
      have z : cw H (m + 1) m v root = none := by
        simp only [cw]
        rw [nt]
      rw [z] at k2
      exact ⟨_, rfl, _, _, _, _, _, rfl, ClsV.ty _, ty, kt, _, rfl, iteT (iteT k2)⟩
theorem ok_working {N k : Nat} (hN : N ≤ 1000) {f fT fN : Addr} {fd fdT fdN : FuncData} (F : Fun K "count_working" "count_working" tWorking f fd) (FT : Fun K "count_together" "count_together" tTogether fT fdT) (T : Txt mg) (hS : ∃ t, mg "MAX_SHAPES" = some (.int 3 t))
    (bF : Binds K fd ["value", "most", "is_root"] []) (gF : mg "count_working" = some (.ref f))
    (GN : FnOk P w K mg base CX0 1 fN fdN ["value"] (spV N k nameB)) (kN : PySem.W.keepIn K (.ref fN) = true) (bN : Binds K fdN ["value"] []) (gN : mg "is_name" = some (.ref fN))
    (kT : PySem.W.keepIn K (.ref fT) = true) (bT : Binds K fdT ["shapes", "most"] []) (gT : mg "count_together" = some (.ref fT)) :
    ∀ M, M ≤ 100 → FnOk P w K mg base CX0 (2 * M + 1 + 1) f fd ["value", "most", "is_root"] (spWorking N k M)
  | 0, _ => step_working hN F T hS GN kN bN gN (fnok_false (j := 2 * 0 + 1)) kT bT gT fun h => absurd rfl h
  | M + 1, h => step_working hN F T hS GN kN bN gN (step_together (by omega) FT (ok_working hN F FT T hS bF gF GN kN bN gN kT bT gT M (by omega)) F.kp bF gF) kT bT gT fun _ => rfl
def shapeB (H : Hp) (v : V) : Bool := (cw H 5 4 v true).isSome
theorem scShape : FnScope ["value"] ["value"] (defScope tShape) := ⟨rfl, rfl, rfl, by decide +kernel, rfl, by decide +kernel, by decide +kernel⟩
theorem ok_shape {N k : Nat} {f fW : Addr} {fd fdW : FuncData} (F : Fun K "is_shape" "is_shape" tShape f fd) (hS : ∃ t, mg "MAX_SHAPE" = some (.int 4 t))
    (GW : FnOk P w K mg base CX0 10 fW fdW ["value", "most", "is_root"] (spWorking N k 4)) (kW : PySem.W.keepIn K (.ref fW) = true) (bW : Binds K fdW ["value", "most", "is_root"] []) (gW : mg "count_working" = some (.ref fW)) :
    FnOk P w K mg base CX0 11 f fd ["value"] (spB N k shapeB) := by
  obtain ⟨tS, lS⟩ := hS
  refine F.ok scShape (fun vs H Q E h => ?_) (fun cdv A outer s H vs Q E hr h => ?_)
  · obtain ⟨x, rfl, _⟩ := h
    rfl
  · obtain ⟨x, rfl, tx, kk⟩ := h
    refine ⟨_, pss_one (ps_ret (pe_cmpR op_notN (pe_call GW hr rfl gW kW bW .nil pass0 (pa_cons (pv 0) (pa_cons (pe_glob (v := .int 4) rfl lS ⟨_, rfl⟩) (pa_cons pe_bl pa_nil)))) pe_non (nomark _))), ?_⟩
    refine ⟨_, rfl, x, 4, true, rfl, Nat.le_refl 4, tx, fun H1 s1 => ?_⟩
    have k2 := kk _ s1
    refine ⟨rfl, ?_⟩
    have z : shapeB H x = (cw H 5 4 x true).isSome := rfl
    rw [z] at k2
    cases c : cw H (4 + 1) 4 x true with
    | none =>
      rw [show cw H 5 4 x true = none from c] at k2
      exact k2
    | some j =>
      rw [show cw H 5 4 x true = some j from c] at k2
      exact k2
end
end K19
namespace K19
open PySem L2
open L2.My
structure Dn (P : Program) (w : World) (K : PySem.W.Frag) (mg : Str → Option Value) (base : Heap) (CX : CXT) (x : Str) (ps : List Str) (k : Nat) (sp : Sp) (f : Addr) (fd : FuncData) : Prop where
  G : FnOk P w K mg base CX k f fd ps sp
  kp : PySem.W.keepIn K (.ref f) = true
  b : Binds K fd ps []
  g : mg x = some (.ref f)
/-- the urn at p: three ints -/
def Urn (H : Hp) (p : Addr) : Prop := ∃ a b c : Int, H p = some (.lst [.int a, .int b, .int c]) ∧ 0 ≤ a
theorem Urn.isL {H : Hp} {p : Addr} (l : Urn H p) : IsL H p := by
  obtain ⟨a, b, c, e, _⟩ := l
  exact ⟨_, e⟩
theorem Urn.some {H : Hp} {p : Addr} (l : Urn H p) : ∃ o, H p = some o := by
  obtain ⟨a, b, c, e, _⟩ := l
  exact ⟨_, e⟩
theorem Urn.kp {H H' : Hp} {p : Addr} (l : Urn H p) (l' : Urn H' p) (s : But p H H') : Kp H H' := s.kp l.isL l'.isL
theorem Urn.same {H H' : Hp} {p : Addr} (l : Urn H p) (s : Same H H') : Urn H' p := by
  obtain ⟨a, b, c, e, r⟩ := l
  exact ⟨a, b, c, s _ _ e, r⟩
theorem Urn.ne {H : Hp} {p a : Addr} (l : Urn H p) (n : H a = none) : a ≠ p := by
  obtain ⟨x, y, z, e, _⟩ := l
  exact (ne_of_none e n).symm
theorem upd_but {H : Hp} {p : Addr} {o : HO} : But p H (upd H p o) := fun q hq _ e => by rw [upd_ne hq]; exact e
structure Bl (mg : Str → Option Value) : Prop where
  int : mg "int" = none
  abs : mg "abs" = none
  max : mg "max" = none
  min : mg "min" = none
  range : mg "range" = none
  len : mg "len" = none
  tuple : mg "tuple" = none
  list : mg "list" = none
  isi : mg "isinstance" = none
theorem ten60 : (((10 : Int) ^ (60 : Int).toNat)).natAbs < 2 ^ 200 := by decide +kernel
theorem pos59 : (0 : Int) < (10 : Int) ^ (59 : Int).toNat := by decide +kernel
theorem pos120 : (0 : Int) < (10 : Int) ^ (60 : Int).toNat * (10 : Int) ^ (60 : Int).toNat := by decide +kernel
section
variable {P : Program} {w : World} {K : PySem.W.Frag} {mg : Str → Option Value} {base : Heap}
def spUrn (K : PySem.W.Frag) : Sp := fun vs H Q _ => ∃ (a : Addr) (ns : List Int) (i : Nat), vs = [.ref a, .int i] ∧ SqL K H a (ns.map V.int) ∧ i < 100 ∧ ∀ p H', H p = none → Same H H' → Urn H' p → Q (.ref p) H'
theorem scUrn : FnScope ["_law_script", "_law_at", "_law_cell", "_law_great", "_law_left"] ["_law_script", "_law_at"] (defScope tUrn) := ⟨rfl, rfl, rfl, by decide +kernel, rfl, by decide +kernel, by decide +kernel⟩
theorem ok_urn {f : Addr} {fd : FuncData} (F : Fun K "_law_urn" "_law_urn" tUrn f fd) (T : Bl mg) : FnOk P w K mg base CX0 1 f fd ["_law_script", "_law_at"] (spUrn K) := by
  refine F.ok scUrn (fun vs H Q E h => ?_) (fun cdv A outer s H vs Q E hr h => ?_)
  · obtain ⟨a, ns, i, rfl, _⟩ := h
    rfl
  · obtain ⟨a, ns, i, rfl, hS, hi, k⟩ := h
    refine ⟨_, pss_cons (ps_set (i := 2) scUrn.nd rfl (.inl rfl) (pe_ifExp (pt_cmpR op_lt (pv 1) (pe_callB call_len_seq (by rfl) T.len PySem.boot_len (pa_cons (pv 0) pa_nil)) (nomark _)) (pe_callTy call_int1 (by rfl) T.int (by decide +kernel) (pa_cons (pe_ix ix_list (pv 0) (pv 1) (fun _ _ => rfl)) pa_nil)) (pe_op op_add (pe_op op_mul pe_int (pv 1)) pe_int)))
      (pss_cons (ps_set (i := 3) scUrn.nd rfl (.inl rfl) (pe_op op_mod (pe_callB call_abs (by rfl) T.abs (by decide +kernel) (pa_cons (pv 2) pa_nil)) (pe_op op_pow pe_int pe_int)))
      (pss_cons (ps_set (i := 4) scUrn.nd rfl (.inl rfl) (pe_callB (call_max2 rfl) (by rfl) T.max (by decide +kernel) (pa_cons pe_int (pa_cons (pe_op op_sub (pe_callB call_abs (by rfl) T.abs (by decide +kernel) (pa_cons (pv 2) pa_nil)) (pe_op op_pow pe_int pe_int)) pa_nil))))
      (pss_one (ps_ret (pe_lst (pa_cons (pe_op op_mod (pv 4) (pe_op op_mulW (pe_op op_pow pe_int pe_int) (pe_op op_pow pe_int pe_int)))
        (pa_cons (pe_op op_add (pe_op op_add (pe_op op_add (pe_op op_mul (pe_op op_mod (pv 3) pe_int) pe_int) (pe_op op_mul pe_int (pv 1))) (pe_op op_mul pe_int (pe_callTy call_int1 (by rfl) T.int (by decide +kernel) (pa_cons (pe_cmpR op_lt (pv 2) pe_int (nomark _)) pa_nil)))) pe_int) (pa_cons pe_int pa_nil)))))))), ?_⟩
    refine ⟨_, rfl, _, rfl, a, _, rfl, .inl hS, _, _, rfl, rfl, _, rfl, ?_⟩
    refine ite2 (fun c => ?_) (fun c => ?_)
    · obtain ⟨cell, hcell⟩ : ∃ cell : Int, (ns.map V.int)[i]? = some (.int cell) := by
        have c2 := of_decide_eq_true c
        rw [List.length_map] at c2
        have c3 : i < ns.length := by omega
        exact ⟨ns[i], by simp [c3]⟩
      refine ⟨_, rfl, _, rfl, a, _, i, _, rfl, rfl, hS, atI_nat (j := i) hcell, .inl ⟨_, rfl, ?_⟩⟩
      refine ⟨_, rfl, _, rfl, _, _, rfl, rfl, ⟨by decide, by decide, by decide⟩, _, _, rfl, rfl, pos59, ?_⟩
      refine ⟨_, rfl, _, rfl, _, _, rfl, rfl, ⟨by decide, by decide, by decide⟩, _, _, rfl, rfl, _, _, rfl, ?_⟩
      refine ⟨_, rfl, _, _, rfl, rfl, ⟨by decide, by decide, by decide⟩, _, _, rfl, rfl, ⟨by decide, by decide, by decide⟩, _, _, rfl, rfl, wide_mul ten60 ten60 (by decide) (by decide) (by decide), _, _, rfl, rfl, pos120, ?_⟩
      refine ⟨_, rfl, _, _, rfl, rfl, (by show (0 : Int) < 2147483629; decide), _, _, rfl, rfl, .inr ⟨by decide, by decide⟩, _, rfl, _, _, rfl, rfl, .inl ⟨by decide, by decide⟩, _, _, rfl, rfl, ?_⟩
      refine ⟨_, rfl, _, _, rfl, rfl, .inr ⟨_, rfl, _, _, rfl, rfl, .inl ⟨by decide, by decide⟩, _, _, rfl, rfl, _, _, rfl, rfl, ?_⟩⟩
      refine ⟨(by show 3 ≤ sizeLine; decide), fun p hp => k p _ hp (grow hp) ⟨_, _, _, upd_same, Int.emod_nonneg _ (Int.ne_of_gt pos120)⟩⟩
    · refine ⟨_, rfl, _, _, rfl, rfl, .inl ⟨by decide, by decide⟩, _, _, rfl, rfl, ?_⟩
      generalize (61 * (i : Int) + 5 : Int) = cell
      refine ⟨_, rfl, _, rfl, _, _, rfl, rfl, ⟨by decide, by decide, by decide⟩, _, _, rfl, rfl, pos59, ?_⟩
      refine ⟨_, rfl, _, rfl, _, _, rfl, rfl, ⟨by decide, by decide, by decide⟩, _, _, rfl, rfl, _, _, rfl, ?_⟩
      refine ⟨_, rfl, _, _, rfl, rfl, ⟨by decide, by decide, by decide⟩, _, _, rfl, rfl, ⟨by decide, by decide, by decide⟩, _, _, rfl, rfl, wide_mul ten60 ten60 (by decide) (by decide) (by decide), _, _, rfl, rfl, pos120, ?_⟩
      refine ⟨_, rfl, _, _, rfl, rfl, (by show (0 : Int) < 2147483629; decide), _, _, rfl, rfl, .inr ⟨by decide, by decide⟩, _, rfl, _, _, rfl, rfl, .inl ⟨by decide, by decide⟩, _, _, rfl, rfl, ?_⟩
      refine ⟨_, rfl, _, _, rfl, rfl, .inr ⟨_, rfl, _, _, rfl, rfl, .inl ⟨by decide, by decide⟩, _, _, rfl, rfl, _, _, rfl, rfl, ?_⟩⟩
      refine ⟨(by show 3 ≤ sizeLine; decide), fun p hp => k p _ hp (grow hp) ⟨_, _, _, upd_same, Int.emod_nonneg _ (Int.ne_of_gt pos120)⟩⟩
/-! ### _law_pull -/
def spPull : Sp := fun vs H Q _ => ∃ (p : Addr) (m : Int), vs = [.ref p, .int m] ∧ 0 < m ∧ m < 1073741824 ∧ Urn H p ∧ ∀ r H', 0 ≤ r → r < m → Urn H' p → But p H H' → Q (.int r) H'
theorem scPull : FnScope ["_law_urn_here", "_law_total", "_law_found", "_law_one_here", "_law_two"] ["_law_urn_here", "_law_total"] (defScope tPull) := ⟨rfl, rfl, rfl, by decide +kernel, rfl, by decide +kernel, by decide +kernel⟩
theorem ok_pull {f : Addr} {fd : FuncData} (F : Fun K "_law_pull" "_law_pull" tPull f fd) (T : Bl mg) : FnOk P w K mg base CX0 1 f fd ["_law_urn_here", "_law_total"] spPull := by
  refine F.ok scPull (fun vs H Q E h => ?_) (fun cdv A outer s H vs Q E hr h => ?_)
  · obtain ⟨p, m, rfl, _⟩ := h
    rfl
  · obtain ⟨p, m, rfl, m0, m1, ⟨a, b, c, e, a0⟩, k⟩ := h
    have m2 : m ≠ 0 := by omega
    refine ⟨_, pss_cons (ps_if (pt_cmpR op_gt (pe_ix ix_list (pv 0) pe_int (fun _ _ => rfl)) pe_int (nomark _))
        (pss_cons (ps_set (i := 2) scPull.nd rfl (.inl rfl) (pe_op op_modN (pe_callTy call_int1 (by rfl) T.int (by decide +kernel) (pa_cons (pe_ix ix_list (pv 0) pe_int (fun _ _ => rfl)) pa_nil)) (pv 1)))
        (pss_cons (ps_asg (pe_op op_fdivN (pe_ix ix_list (pv 0) pe_int (fun _ _ => rfl)) (pv 1)) (pg_sub (pv 0) pe_int set_list))
        (pss_one (ps_ret (pv 2))))) pss_nil)
      (pss_cons (ps_asg (pe_op op_add (pe_ix ix_list (pv 0) pe_int (fun _ _ => rfl)) pe_int) (pg_sub (pv 0) pe_int set_list))
      (pss_cons (ps_set (i := 3) scPull.nd rfl (.inl rfl) (pe_op op_mod (pe_callTy call_int1 (by rfl) T.int (by decide +kernel) (pa_cons (pe_op op_add (pe_ix ix_list (pv 0) pe_int (fun _ _ => rfl)) (pe_op op_mul pe_int (pe_ix ix_list (pv 0) pe_int (fun _ _ => rfl)))) pa_nil)) pe_int))
      (pss_cons (ps_set (i := 4) scPull.nd rfl (.inl rfl) (pe_op op_mod (pe_callTy call_int1 (by rfl) T.int (by decide +kernel) (pa_cons (pe_op op_add (pe_op op_mul (pv 3) (pv 3)) (pe_op op_mul pe_int (pe_ix ix_list (pv 0) pe_int (fun _ _ => rfl)))) pa_nil)) pe_int))
      (pss_one (ps_ret (pe_op op_modN (pe_callTy call_int1 (by rfl) T.int (by decide +kernel) (pa_cons (pe_op op_fdiv (pe_callTy call_int1 (by rfl) T.int (by decide +kernel) (pa_cons (pe_op op_add (pe_op op_mul (pv 4) pe_int) (pv 3)) pa_nil)) pe_int) pa_nil)) (pv 1))))))), ?_⟩
    refine ⟨_, rfl, p, _, 0, _, rfl, rfl, SqL.of e, atI_nat (j := 0) rfl, _, _, rfl, rfl, _, rfl, ite2 (fun c0 => ?_) (fun c0 => ?_)⟩
    · refine ⟨_, rfl, p, _, 0, _, rfl, rfl, SqL.of e, atI_nat (j := 0) rfl, .inl ⟨_, rfl, _, rfl, _, _, rfl, rfl, m2, ?_⟩⟩
      refine ⟨_, rfl, p, _, 0, _, rfl, rfl, SqL.of e, atI_nat (j := 0) rfl, _, rfl, _, _, rfl, rfl, ⟨m2, by omega⟩, _, rfl, p, _, _, 0, rfl, rfl, e, rfl, ?_⟩
      refine ⟨_, rfl, k _ _ (Int.fmod_nonneg_of_pos _ m0) (Int.fmod_lt_of_pos _ m0) ⟨_, b, c, upd_same, Int.fdiv_nonneg a0 (by omega)⟩ upd_but⟩
    · refine ⟨_, rfl, p, _, 2, _, rfl, rfl, SqL.of e, atI_nat (j := 2) rfl, _, _, rfl, rfl, _, rfl, p, _, _, 2, rfl, rfl, e, rfl, ?_⟩
      have e2 : (upd H p (.lst [.int a, .int b, .int (c + 1)])) p = some (.lst [.int a, .int b, .int (c + 1)]) := upd_same
      refine ⟨_, rfl, p, _, 1, _, rfl, rfl, SqL.of e2, atI_nat (j := 1) rfl, ?_⟩
      refine ⟨_, rfl, p, _, 2, _, rfl, rfl, SqL.of e2, atI_nat (j := 2) rfl, _, _, rfl, rfl, .inl ⟨by decide, by decide⟩, _, _, rfl, rfl, .inl ⟨_, rfl, _, _, rfl, rfl, (by show (0 : Int) < 2305843009213693951; decide), ?_⟩⟩
      have x0 : 0 ≤ (b + 6101 * (c + 1)) % 2305843009213693951 := Int.emod_nonneg _ (by decide)
      have x1 : (b + 6101 * (c + 1)) % 2305843009213693951 < 2305843009213693951 := Int.emod_lt_of_pos _ (by decide)
      revert x0 x1
      generalize (b + 6101 * (c + 1)) % 2305843009213693951 = one
      intro x0 x1
      refine ⟨_, rfl, _, rfl, _, _, rfl, rfl, .inl ⟨by omega, by omega⟩, ?_⟩
      refine ⟨_, rfl, p, _, 2, _, rfl, rfl, SqL.of e2, atI_nat (j := 2) rfl, _, _, rfl, rfl, .inl ⟨by decide, by decide⟩, _, _, rfl, rfl, .inl ⟨_, rfl, _, _, rfl, rfl, (by show (0 : Int) < 2305843009213693921; decide), ?_⟩⟩
      refine ⟨_, rfl, _, _, rfl, rfl, .inr ⟨by decide, by decide⟩, _, rfl, _, _, rfl, rfl, .inl ⟨_, rfl, _, _, rfl, rfl, ⟨by decide, by decide⟩, .inl ⟨_, rfl, _, rfl, _, _, rfl, rfl, m2, ?_⟩⟩⟩
      exact k _ _ (Int.fmod_nonneg_of_pos _ m0) (Int.fmod_lt_of_pos _ m0) ⟨a, b, _, e2, a0⟩ upd_but
/-! ### _law_one -/
def spOne : Sp := fun vs H Q _ => ∃ (p a : Addr) (xs : List V), vs = [.ref p, .ref a] ∧ H a = some (.lst xs) ∧ xs ≠ [] ∧ xs.length ≤ 1000 ∧ a ≠ p ∧ Urn H p ∧ ∀ x ∈ xs, ∀ H', Urn H' p → But p H H' → Q x H'
theorem scOne : FnScope ["_law_urn_here", "_law_items"] ["_law_urn_here", "_law_items"] (defScope tOne) := ⟨rfl, rfl, rfl, by decide +kernel, rfl, by decide +kernel, by decide +kernel⟩
theorem ok_one {f fT : Addr} {fd fdT : FuncData} (F : Fun K "_law_one" "_law_one" tOne f fd) (T : Bl mg) (dT : Dn P w K mg base CX0 "_law_pull" ["_law_urn_here", "_law_total"] 1 spPull fT fdT) :
    FnOk P w K mg base CX0 2 f fd ["_law_urn_here", "_law_items"] spOne := by
  refine F.ok scOne (fun vs H Q E h => ?_) (fun cdv A outer s H vs Q E hr h => ?_)
  · obtain ⟨p, a, xs, rfl, _⟩ := h
    rfl
  · obtain ⟨p, a, xs, rfl, e, ne, l, hp, lo, k⟩ := h
    refine ⟨_, pss_one (ps_ret (pe_ix ix_list (pv 1) (pe_call dT.G hr rfl dT.g dT.kp dT.b .nil pass0 (pa_cons (pv 0) (pa_cons (pe_callB call_len_seq (by rfl) T.len PySem.boot_len (pa_cons (pv 1) pa_nil)) pa_nil))) (fun _ _ => rfl))), ?_⟩
    have l0 : 0 < xs.length := List.length_pos_iff.mpr ne
    refine ⟨_, rfl, _, rfl, _, rfl, a, xs, rfl, .inl (SqL.of e), p, (xs.length : Int), rfl, by omega, by omega, lo, fun r H1 r0 r1 lo1 u1 => ?_⟩
    have e1 := u1 a hp _ e
    obtain ⟨j, rfl⟩ := Int.eq_ofNat_of_zero_le r0
    have hj : j < xs.length := by omega
    exact ⟨a, xs, j, xs[j], rfl, rfl, SqL.of e1, atI_nat (j := j) (List.getElem?_eq_getElem hj), k _ (List.getElem_mem hj) H1 lo1 u1⟩
end
end K19
namespace K19
open PySem L2
open L2.My
/-! ### shapes and trees, and what the defs make of them -/
inductive Sh where
  | hole
  | load
  | store (s : Sh)
  | op (z : Str) (ps : List Sh)
inductive Tr where
  | att (n : Str) (d : Int)
  | load (a : Str) (st off : Int)
  | op (z : Str) (ts : List Tr)
  | store (n a : Str) (st off : Int) (t : Tr)
def Sh.kind : Sh → Str
  | .hole => "hole"
  | .load => "load"
  | .store _ => "store"
  | .op _ _ => "op"
def Tr.kind : Tr → Str
  | .att _ _ => "at"
  | .load _ _ _ => "load"
  | .op _ _ => "op"
  | .store _ _ _ _ _ => "store"
def Sh.subs : Sh → List Sh
  | .store s => [s]
  | .op _ ps => ps
  | _ => []
def Tr.subs : Tr → List Tr
  | .store _ _ _ _ t => [t]
  | .op _ ts => ts
  | _ => []
mutual
def Sh.data : Sh → PyData
  | .hole => .tuple [.str "hole"]
  | .load => .tuple [.str "load"]
  | .store s => .tuple [.str "store", s.data]
  | .op z ps => .tuple (.str "op" :: .str z :: datas ps)
def datas : List Sh → List PyData
  | [] => []
  | s :: r => s.data :: datas r
end
mutual
def Sh.sz : Sh → Nat
  | .hole => 1
  | .load => 1
  | .store s => 1 + s.sz
  | .op _ ps => 1 + szs ps
def szs : List Sh → Nat
  | [] => 0
  | s :: r => s.sz + szs r
end
mutual
def Sh.signs : Sh → List Str
  | .hole => ["_"]
  | .load => ["@"]
  | .store s => "=" :: s.signs
  | .op z ps => z :: "(" :: (signsL ps ++ [(")" : Str)])
def signsL : List Sh → List Str
  | [] => []
  | s :: r => s.signs ++ signsL r
end
mutual
def Sh.text : Sh → Str
  | .hole => "_"
  | .load => "@"
  | .store s => ("= " : Str) ++ s.text
  | .op z ps => Txt.join " " ([z, ("(" : Str)] ++ textL ps ++ [(")" : Str)])
def textL : List Sh → List Str
  | [] => []
  | s :: r => s.text :: textL r
end
mutual
def Sh.walked : Sh → List Nat → List (List Nat × Sh)
  | .hole, p => [(p, .hole)]
  | .load, p => [(p, .load)]
  | .store s, p => (p, .store s) :: s.walked (p ++ [0])
  | .op z ps, p => (p, .op z ps) :: walkedL ps 0 p
def walkedL : List Sh → Nat → List Nat → List (List Nat × Sh)
  | [], _, _ => []
  | s :: r, i, p => s.walked (p ++ [i]) ++ walkedL r (i + 1) p
end
def Sh.pathsOf (s : Sh) (k : Str) : List (List Nat) := ((s.walked []).filter fun r => r.2.kind == k).map (·.1)
mutual
def Sh.lpaths : Sh → Str → List (List Nat)
  | .hole, w => if ("hole" : Str) == w then [[]] else []
  | .load, w => if ("load" : Str) == w then [[]] else []
  | .store s, w => (if ("store" : Str) == w then [[]] else []) ++ (s.lpaths w).map (0 :: ·)
  | .op _ ps, w => (if ("op" : Str) == w then [[]] else []) ++ lpathsL ps 0 w
def lpathsL : List Sh → Nat → Str → List (List Nat)
  | [], _, _ => []
  | s :: r, i, w => (s.lpaths w).map (i :: ·) ++ lpathsL r (i + 1) w
end
mutual
def fit : Sh → Tr → Bool
  | .store s, .store _ _ _ _ t => fit s t
  | .store _, _ => false
  | _, .store _ _ _ _ _ => false
  | .hole, _ => true
  | .load, .load _ _ _ => true
  | .load, _ => false
  | .op z ps, .op y ts => (z == y && ps.length == ts.length) && fitL ps ts
  | .op _ _, _ => false
def fitL : List Sh → List Tr → Bool
  | [], _ => true
  | _ :: _, [] => true
  | s :: r, t :: u => fit s t && fitL r u
end
mutual
def cwS : Sh → Nat → Bool → Option Nat
  | .hole, _, _ => some 0
  | .load, m, _ => if m = 0 then none else some 1
  | .store s, m, r => if m = 0 then none else if r = true then (match cwS s (m - 1) false with
      | none => none
      | some k => some (1 + k)) else none
  | .op z ps, m, _ => if m = 0 then none else if ps.length ≤ 3 ∧ nameZ z = true then ctS ps m 1 else none
def ctS : List Sh → Nat → Nat → Option Nat
  | [], _, t => some t
  | s :: r, m, t => match cwS s (m - t) false with
    | none => none
    | some k => ctS r m (t + k)
end
def Sh.ok (s : Sh) : Bool := (cwS s 4 true).isSome
/-! the reading of texts -/
def loopP (f : Nat → Option (Sh × Nat)) (ws : List Str) : Nat → Nat → List Sh → Option (List Sh × Nat)
  | 0, _, _ => none
  | g + 1, i, acc => match ws[i]? with
    | none => some (acc, i)
    | some x => if (x == (")" : Str)) = true then some (acc, i) else match f i with
      | none => none
      | some (s, b) => loopP f ws g b (acc ++ [s])
def part : Nat → List Str → Nat → Option (Sh × Nat)
  | 0, _, _ => none
  | n + 1, ws, i =>
    let x := (ws[i]?).getD ""
    if (x == ("_" : Str)) = true then some (.hole, i + 1) else if (x == ("@" : Str)) = true then some (.load, i + 1)
    else if nameZ x = true ∧ ws[i + 1]? = some ("(" : Str) then match loopP (part n ws) ws (n + 1) (i + 2) [] with
      | none => none
      | some (acc, b) => if b < ws.length then some (.op x acc, b + 1) else none
    else none
def wholeOf (ws : List Str) : Option (Sh × Nat) → Option Sh
  | none => none
  | some (s, b) => if b = ws.length then (let w := if ws[0]? = some ("=" : Str) then Sh.store s else s
      if w.ok = true then some w else none) else none
def shapeOf (ws : List Str) : Option Sh := if 21 < ws.length then none else wholeOf ws (part 22 ws (if ws[0]? = some ("=" : Str) then 1 else 0))
def readT (t : Str) : Option Sh := shapeOf (Txt.split t " ")
/-! the shapes of the law -/
def menuS : List Sh := [.op "add" [.hole, .hole], .op "mul" [.hole, .hole], .load, .store .hole, .op "neg" [.hole],
  .op "one" [], .op "add" [.op "mul" [.hole, .hole], .hole], .op "mul" [.load, .hole],
  .op "add" [.hole, .load], .store (.op "add" [.hole, .hole]), .store .load,
  .op "neg" [.op "neg" [.hole]], .op "add" [.load, .load], .store (.op "neg" [.hole]),
  .op "mul" [.op "one" [], .hole], .op "add" [.hole, .op "add" [.hole, .hole]],
  .op "neg" [.load], .op "add" [.hole, .hole]]
def shapesS : List Sh := menuS ++ [.hole, .op "f" [.hole, .load, .op "one" []], .store (.op "one" [])]
def pickW : List Str := ["_", "@", "(", ")", "=", "f", "", "A", "hole"]
def nears (ws : List Str) (i : Nat) (x : Str) : List (List Str) := [ws.take i ++ [x] ++ ws.drop (i + 1), ws.take i ++ ws.drop (i + 1), ws.take i ++ [x] ++ ws.drop i]
def nearOk (ws : List Str) : Bool := match readT (Txt.join " " ws) with
  | none => true
  | some s => s.ok && Txt.join " " s.signs == Txt.join " " ws
def shapeOk (s : Sh) : Bool := s.ok && (s.pathsOf "hole" == s.lpaths "hole" && (s.pathsOf "load" == s.lpaths "load" && (Txt.join " " s.signs == s.text &&
  (match readT s.text with
   | none => false
   | some r => PyData.eqv r.data s.data) && Txt.split s.text " " == s.signs)))
end K19
namespace K19
open PySem L2
open L2.My
theorem signsL_app : ∀ (a b : List Sh), signsL (a ++ b) = signsL a ++ signsL b
  | [], b => by simp [signsL]
  | s :: r, b => by simp only [List.cons_append, signsL, signsL_app r b, List.append_assoc]
theorem drop_at {α : Type} {ws : List α} {i : Nat} {x : α} (h : ws[i]? = some x) : ws.drop i = x :: ws.drop (i + 1) := by
  obtain ⟨hi, hx⟩ := List.getElem?_eq_some_iff.mp h
  rw [← hx]
  exact List.drop_eq_getElem_cons hi
theorem at_of {ws : List Str} {i : Nat} {x : Str} (h : (ws[i]?).getD "" = x) (n : x ≠ "") : ws[i]? = some x := by
  cases e : ws[i]? with
  | none =>
    rw [e] at h
    exact absurd h.symm n
  | some y =>
    rw [e] at h
    rw [← h]
    rfl
theorem name_ne {z : Str} (h : nameZ z = true) : z ≠ "" := by
  rintro rfl
  exact absurd h (by decide +kernel)
/-- what is read stands there -/
def Reads (ws : List Str) (i : Nat) (r : Option (Sh × Nat)) : Prop := ∀ s b, r = some (s, b) → i < b ∧ b ≤ ws.length ∧ ws.drop i = s.signs ++ ws.drop b
theorem loop_reads {f : Nat → Option (Sh × Nat)} {ws : List Str} (hf : ∀ i, Reads ws i (f i)) : ∀ {g i : Nat} {acc out : List Sh} {b : Nat}, loopP f ws g i acc = some (out, b) →
    ∃ more, out = acc ++ more ∧ i ≤ b ∧ (b < ws.length → ws[b]? = some (")" : Str)) ∧ ws.drop i = signsL more ++ ws.drop b
  | 0, _, _, _, _, h => by cases h
  | g + 1, i, acc, out, b, h => by
    simp only [loopP] at h
    cases e : ws[i]? with
    | none =>
      rw [e] at h
      cases h
      exact ⟨[], by simp, Nat.le_refl _, fun c => absurd (List.getElem?_eq_none_iff.mp e) (by omega), by simp [signsL]⟩
    | some x =>
      rw [e] at h
      by_cases c : (x == (")" : Str)) = true
      · simp only [c, if_true] at h
        cases h
        refine ⟨[], by simp, Nat.le_refl _, fun _ => ?_, by simp [signsL]⟩
        rw [e, eq_of_beq c]
      · simp only [c, if_false] at h
        cases e2 : f i with
        | none =>
          rw [e2] at h
          cases h
        | some r =>
          obtain ⟨s, j⟩ := r
          rw [e2] at h
          obtain ⟨h1, _, h3⟩ := hf i s j e2
          obtain ⟨more, q1, q2, q3, q4⟩ := loop_reads hf h
          refine ⟨s :: more, by rw [q1]; simp, by omega, q3, ?_⟩
          rw [h3, q4]
          simp only [signsL, List.append_assoc]
theorem part_reads : ∀ (n : Nat) (ws : List Str) (i : Nat), Reads ws i (part n ws i)
  | 0, _, _ => fun s b h => by cases h
  | n + 1, ws, i => fun s b h => by
    simp only [part] at h
    by_cases c1 : ((ws[i]?).getD "" == ("_" : Str)) = true
    · simp only [c1, if_true] at h
      cases h
      have e := at_of (eq_of_beq c1) (by decide +kernel)
      have hi := (List.getElem?_eq_some_iff.mp e).1
      exact ⟨by omega, by omega, by rw [drop_at e]; rfl⟩
    · simp only [c1, if_false] at h
      by_cases c2 : ((ws[i]?).getD "" == ("@" : Str)) = true
      · simp only [c2, if_true] at h
        cases h
        have e := at_of (eq_of_beq c2) (by decide +kernel)
        have hi := (List.getElem?_eq_some_iff.mp e).1
        exact ⟨by omega, by omega, by rw [drop_at e]; rfl⟩
      · simp only [c2, if_false] at h
        by_cases c3 : nameZ ((ws[i]?).getD "") = true ∧ ws[i + 1]? = some ("(" : Str)
        · rw [if_pos c3] at h
          have e := at_of rfl (name_ne c3.1)
          cases e2 : loopP (part n ws) ws (n + 1) (i + 2) [] with
          | none =>
            rw [e2] at h
            cases h
          | some r =>
            obtain ⟨acc, j⟩ := r
            rw [e2] at h
            obtain ⟨more, q1, q2, q3, q4⟩ := loop_reads (part_reads n ws) e2
            by_cases c4 : j < ws.length
            · simp only [c4, if_true] at h
              cases h
              refine ⟨by omega, by omega, ?_⟩
              rw [drop_at e, drop_at c3.2, show i + 1 + 1 = i + 2 from rfl, q4, drop_at (q3 c4), q1]
              simp only [Sh.signs, List.nil_append, List.cons_append, List.append_assoc]
            · simp only [c4, if_false] at h
              cases h
        · rw [if_neg c3] at h
          cases h
theorem shapeOf_says {ws : List Str} {s : Sh} (h : shapeOf ws = some s) : s.ok = true ∧ s.signs = ws ∧ ws.length ≤ 21 := by
  unfold shapeOf at h
  by_cases c : 21 < ws.length
  · rw [if_pos c] at h
    cases h
  · rw [if_neg c] at h
    cases e : part 22 ws (if ws[0]? = some ("=" : Str) then 1 else 0) with
    | none =>
      rw [e] at h
      cases h
    | some r =>
      obtain ⟨t, b⟩ := r
      obtain ⟨h1, h2, h3⟩ := part_reads _ _ _ t b e
      rw [e] at h
      simp only [wholeOf] at h
      by_cases c2 : b = ws.length
      · rw [if_pos c2] at h
        subst c2
        rw [List.drop_length, List.append_nil] at h3
        by_cases c3 : ws[0]? = some ("=" : Str)
        · rw [if_pos c3] at h h3
          split at h
          · rename_i ok
            cases h
            refine ⟨ok, ?_, by omega⟩
            have := drop_at c3
            rw [List.drop_zero] at this
            rw [this, h3]
            rfl
          · cases h
        · rw [if_neg c3] at h h3
          rw [List.drop_zero] at h3
          split at h
          · rename_i ok
            cases h
            exact ⟨ok, h3.symm, by omega⟩
          · cases h
      · rw [if_neg c2] at h
        cases h
theorem join_split (t : Str) : Txt.join " " (Txt.split t " ") = t := by
  unfold Txt.split
  split
  · rfl
  split
  · rfl
  · exact StrLaws.glued_between_self t " " _
theorem readT_says {t : Str} {s : Sh} (h : readT t = some s) : s.ok = true ∧ Txt.join " " s.signs = t := by
  obtain ⟨h1, h2, _⟩ := shapeOf_says h
  exact ⟨h1, by rw [h2, join_split]⟩
theorem menu_ok : (shapesS.all shapeOk) = true := by decide +kernel
end K19
namespace K19
open PySem L2
open L2.My
/-! ### shapes and trees in the heap -/
mutual
inductive RSh (H : Hp) : V → Sh → Prop
  | hole {a : Addr} (e : H a = some (.tup [.str "hole"])) : RSh H (.ref a) .hole
  | load {a : Addr} (e : H a = some (.tup [.str "load"])) : RSh H (.ref a) .load
  | store {a : Addr} {v : V} {s : Sh} (e : H a = some (.tup [.str "store", v])) (h : RSh H v s) : RSh H (.ref a) (.store s)
  | op {a : Addr} {z : Str} {vs : List V} {ps : List Sh} (e : H a = some (.tup (.str "op" :: .str z :: vs))) (l : z.length ≤ 100) (h : RShs H vs ps) : RSh H (.ref a) (.op z ps)
inductive RShs (H : Hp) : List V → List Sh → Prop
  | nil : RShs H [] []
  | cons {v : V} {s : Sh} {vs : List V} {ps : List Sh} (h : RSh H v s) (r : RShs H vs ps) : RShs H (v :: vs) (s :: ps)
end
mutual
inductive RTr (H : Hp) : V → Tr → Prop
  | att {a : Addr} {n : Str} {d : Int} (e : H a = some (.tup [.str "at", .str n, .int d])) (l : n.length ≤ 100) : RTr H (.ref a) (.att n d)
  | load {a : Addr} {n : Str} {i j : Int} (e : H a = some (.tup [.str "load", .str n, .int i, .int j])) (l : n.length ≤ 100) : RTr H (.ref a) (.load n i j)
  | op {a : Addr} {z : Str} {vs : List V} {ts : List Tr} (e : H a = some (.tup (.str "op" :: .str z :: vs))) (l : z.length ≤ 100) (h : RTrs H vs ts) : RTr H (.ref a) (.op z ts)
  | store {a : Addr} {n m : Str} {i j : Int} {v : V} {t : Tr} (e : H a = some (.tup [.str "store", .str n, .str m, .int i, .int j, v])) (l : n.length ≤ 100 ∧ m.length ≤ 100) (h : RTr H v t) : RTr H (.ref a) (.store n m i j t)
inductive RTrs (H : Hp) : List V → List Tr → Prop
  | nil : RTrs H [] []
  | cons {v : V} {t : Tr} {vs : List V} {ts : List Tr} (h : RTr H v t) (r : RTrs H vs ts) : RTrs H (v :: vs) (t :: ts)
end
mutual
theorem RSh.kp {H H' : Hp} (k : Kp H H') : ∀ {v : V} {s : Sh}, RSh H v s → RSh H' v s
  | _, _, .hole e => .hole (k.tup _ _ e)
  | _, _, .load e => .load (k.tup _ _ e)
  | _, _, .store e h => .store (k.tup _ _ e) (h.kp k)
  | _, _, .op e l h => .op (k.tup _ _ e) l (h.kp k)
theorem RShs.kp {H H' : Hp} (k : Kp H H') : ∀ {vs : List V} {ps : List Sh}, RShs H vs ps → RShs H' vs ps
  | _, _, .nil => .nil
  | _, _, .cons h r => .cons (h.kp k) (r.kp k)
end
mutual
theorem RTr.kp {H H' : Hp} (k : Kp H H') : ∀ {v : V} {t : Tr}, RTr H v t → RTr H' v t
  | _, _, .att e l => .att (k.tup _ _ e) l
  | _, _, .load e l => .load (k.tup _ _ e) l
  | _, _, .op e l h => .op (k.tup _ _ e) l (h.kp k)
  | _, _, .store e l h => .store (k.tup _ _ e) l (h.kp k)
theorem RTrs.kp {H H' : Hp} (k : Kp H H') : ∀ {vs : List V} {ts : List Tr}, RTrs H vs ts → RTrs H' vs ts
  | _, _, .nil => .nil
  | _, _, .cons h r => .cons (h.kp k) (r.kp k)
end
theorem RSh.on {H H' : Hp} {v : V} {s : Sh} (h : RSh H v s) (k : Same H H') : RSh H' v s := h.kp (.of k)
theorem RShs.on {H H' : Hp} {vs : List V} {ps : List Sh} (h : RShs H vs ps) (k : Same H H') : RShs H' vs ps := h.kp (.of k)
theorem RTr.on {H H' : Hp} {v : V} {t : Tr} (h : RTr H v t) (k : Same H H') : RTr H' v t := h.kp (.of k)
theorem RTrs.on {H H' : Hp} {vs : List V} {ts : List Tr} (h : RTrs H vs ts) (k : Same H H') : RTrs H' vs ts := h.kp (.of k)
theorem RShs.len {H : Hp} : ∀ {vs : List V} {ps : List Sh}, RShs H vs ps → vs.length = ps.length
  | _, _, .nil => rfl
  | _, _, .cons _ r => by rw [List.length_cons, List.length_cons, r.len]
theorem RTrs.len {H : Hp} : ∀ {vs : List V} {ts : List Tr}, RTrs H vs ts → vs.length = ts.length
  | _, _, .nil => rfl
  | _, _, .cons _ r => by rw [List.length_cons, List.length_cons, r.len]
theorem RShs.at {H : Hp} : ∀ {vs : List V} {ps : List Sh}, RShs H vs ps → ∀ {i : Nat} {v : V}, vs[i]? = some v → ∃ s, ps[i]? = some s ∧ RSh H v s
  | _, _, .nil, _, _, h => by simp at h
  | _, _, .cons h r, 0, _, e => by
    cases e
    exact ⟨_, rfl, h⟩
  | _, _, .cons h r, i + 1, _, e => r.at e
theorem RTrs.at {H : Hp} : ∀ {vs : List V} {ts : List Tr}, RTrs H vs ts → ∀ {i : Nat} {v : V}, vs[i]? = some v → ∃ t, ts[i]? = some t ∧ RTr H v t
  | _, _, .nil, _, _, h => by simp at h
  | _, _, .cons h r, 0, _, e => by
    cases e
    exact ⟨_, rfl, h⟩
  | _, _, .cons h r, i + 1, _, e => r.at e
theorem szs_at : ∀ {ps : List Sh} {i : Nat} {s : Sh}, ps[i]? = some s → s.sz ≤ szs ps
  | [], _, _, h => by simp at h
  | p :: r, 0, s, h => by
    cases h
    simp only [szs]
    omega
  | p :: r, i + 1, s, h => by
    have := szs_at (ps := r) (i := i) h
    simp only [szs]
    omega
theorem sz_pos : ∀ s : Sh, 1 ≤ s.sz
  | .hole => Nat.le_refl 1
  | .load => Nat.le_refl 1
  | .store s => by simp only [Sh.sz]; omega
  | .op _ _ => by simp only [Sh.sz]; omega
theorem szs_len : ∀ ps : List Sh, ps.length ≤ szs ps
  | [] => Nat.le_refl 0
  | s :: r => by
    have := szs_len r
    have := sz_pos s
    simp only [szs, List.length_cons]
    omega
mutual
theorem RSh.tv {H : Hp} {N : Nat} : ∀ {v : V} {s : Sh}, RSh H v s → ∀ {n : Nat}, s.sz ≤ n → n + 2 ≤ N → Tv H N n v
  | _, _, .hole e, n, h, hN => by
    obtain ⟨m, rfl⟩ := Nat.exists_eq_add_of_lt (show 0 < n from h)
    exact .tup e (by show 1 ≤ N; omega) (fun x hx => by rw [List.mem_singleton.mp hx]; exact .str _ (by decide +kernel))
  | _, _, .load e, n, h, hN => by
    obtain ⟨m, rfl⟩ := Nat.exists_eq_add_of_lt (show 0 < n from h)
    exact .tup e (by show 1 ≤ N; omega) (fun x hx => by rw [List.mem_singleton.mp hx]; exact .str _ (by decide +kernel))
  | _, .store s, .store e r, n, h, hN => by
    simp only [Sh.sz] at h
    obtain ⟨m, rfl⟩ := Nat.exists_eq_add_of_lt (show 0 < n by omega)
    refine .tup e (by show 2 ≤ N; omega) (fun x hx => ?_)
    rcases List.mem_cons.mp hx with rfl | hx
    · exact .str _ (by decide +kernel)
    · rw [List.mem_singleton.mp hx]
      exact r.tv (by omega) (by omega)
  | _, .op z ps, .op e l r, n, h, hN => by
    simp only [Sh.sz] at h
    obtain ⟨m, rfl⟩ := Nat.exists_eq_add_of_lt (show 0 < n by omega)
    have hl := szs_len ps
    refine .tup e (by rw [List.length_cons, List.length_cons, r.len]; omega) (fun x hx => ?_)
    rcases List.mem_cons.mp hx with rfl | hx
    · exact .str _ (by decide +kernel)
    rcases List.mem_cons.mp hx with rfl | hx
    · exact .str _ l
    · exact r.tvs (by omega) (by omega) x hx
theorem RShs.tvs {H : Hp} {N : Nat} : ∀ {vs : List V} {ps : List Sh}, RShs H vs ps → ∀ {n : Nat}, szs ps ≤ n → n + 2 ≤ N → ∀ x ∈ vs, Tv H N n x
  | _, _, .nil, n, h, hN, x, hx => by cases hx
  | _, _, .cons (s := s) (ps := ps) q r, n, h, hN, x, hx => by
    simp only [szs] at h
    rcases List.mem_cons.mp hx with rfl | hx
    · exact q.tv (by omega) hN
    · exact r.tvs (by omega) hN x hx
end
mutual
theorem RSh.dp {K : PySem.W.Frag} {H : Hp} : ∀ {v : V} {s : Sh}, RSh H v s → Dp K H v s.data
  | _, _, .hole e => by
    simp only [Sh.data]
    exact .tup (SqT.of e) (.cons (.str _) .nil)
  | _, _, .load e => by
    simp only [Sh.data]
    exact .tup (SqT.of e) (.cons (.str _) .nil)
  | _, _, .store e h => by
    simp only [Sh.data]
    exact .tup (SqT.of e) (.cons (.str _) (.cons h.dp .nil))
  | _, _, .op e l h => by
    simp only [Sh.data]
    exact .tup (SqT.of e) (.cons (.str _) (.cons (.str _) h.dps))
theorem RShs.dps {K : PySem.W.Frag} {H : Hp} : ∀ {vs : List V} {ps : List Sh}, RShs H vs ps → DpAll K H vs (datas ps)
  | _, _, .nil => .nil
  | _, _, .cons h r => by
    simp only [datas]
    exact .cons h.dp r.dps
end
/-! the count of working nodes -/
theorem isTag_no {z y : Str} {l : List (Option Str)} (h : z ≠ y) : isTag (some z :: l) y = false := by
  cases l with
  | nil =>
    show (decide ((some z : Option Str) = some y)) = false
    exact decide_eq_false fun c => h (Option.some.inj c)
  | cons _ _ => rfl
mutual
theorem RSh.cw {H : Hp} : ∀ {v : V} {s : Sh}, RSh H v s → ∀ {d m : Nat} {r : Bool}, s.sz ≤ d → cw H d m v r = cwS s m r
  | _, .hole, .hole e, d + 1, m, r, h => by
    simp only [K19.cw, tupV_of e, cwIn, cwS]
    rfl
  | _, .load, .load e, d + 1, m, r, h => by
    have t1 : isTag ([V.str "load"].map strOf) "hole" = false := by decide +kernel
    have t2 : isTag ([V.str "load"].map strOf) "load" = true := by decide +kernel
    simp only [K19.cw, tupV_of e, cwIn, cwS, t1, t2, if_false, if_true, Bool.false_eq_true]
  | _, .store s, .store (v := v) e q, d + 1, m, r, h => by
    simp only [Sh.sz] at h
    have t1 : isTag ([V.str "store", v].map strOf) "hole" = false := rfl
    have t2 : isTag ([V.str "store", v].map strOf) "load" = false := rfl
    have t3 : isS (V.str "store") "store" = true := by decide +kernel
    have t4 : isS (V.str "store") "op" = false := by decide +kernel
    simp only [K19.cw, tupV_of e, cwIn, cwS, t1, t2, t3, if_false, Bool.false_eq_true, Bool.true_and]
    by_cases m0 : m = 0
    · simp only [m0, if_true]
    · simp only [m0, if_false]
      cases r with
      | true =>
        simp only [if_true, cwStore, ctGo]
        rw [q.cw (by omega)]
        all_goals rfl
      | false => simp only [if_false, Bool.false_eq_true, cwOp, t4, false_and]
  | _, .op z ps, .op (vs := vs) e l q, d + 1, m, r, h => by
    simp only [Sh.sz] at h
    have t1 : isTag ((V.str "op" :: V.str z :: vs).map strOf) "hole" = false := rfl
    have t2 : isTag ((V.str "op" :: V.str z :: vs).map strOf) "load" = false := rfl
    have t3 : isS (V.str "op") "store" = false := by decide +kernel
    have t4 : isS (V.str "op") "op" = true := by decide +kernel
    simp only [K19.cw, tupV_of e, cwIn, cwS, t1, t2, t3, if_false, Bool.false_eq_true, Bool.false_and, cwOp, t4, true_and, q.len]
    by_cases m0 : m = 0
    · simp only [m0, if_true]
    · simp only [m0, if_false]
      rw [q.ct (by omega)]
      rfl
  | _, s, _, 0, m, r, h => by
    have := sz_pos s
    omega
theorem RShs.ct {H : Hp} : ∀ {vs : List V} {ps : List Sh}, RShs H vs ps → ∀ {d m t : Nat}, szs ps ≤ d → ctGo (fun q u => K19.cw H d q u false) m t vs = ctS ps m t
  | _, [], .nil, d, m, t, h => rfl
  | _, s :: ps, .cons q r, d, m, t, h => by
    simp only [szs] at h
    simp only [ctGo, ctS]
    rw [q.cw (by omega)]
    cases cwS s (m - t) false with
    | none => rfl
    | some k => exact r.ct (by omega)
end
theorem RSh.shapeB {H : Hp} {v : V} {s : Sh} (h : RSh H v s) {N n : Nat} (t : Tv H N n v) : shapeB H v = s.ok := by
  unfold K19.shapeB Sh.ok
  rw [← h.cw (d := s.sz + 5) (by omega), cw_fuel (d := 5) (e := s.sz + 5) (by omega) (by omega)]
end K19
namespace K19
open PySem L2
open L2.My
abbrev mroV : List Value := [.type "ValueError", .type "Exception", .type "BaseException", .type "object"]
/-- an own class over ValueError without an __init__ -/
structure ErrV (K : PySem.W.Frag) (mg : Str → Option Value) (nm : Str) (C : Addr) : Prop where
  g : mg nm = some (.ref C)
  x : PySem.W.excIn K C mroV "ValueError.__new__" = true
  k : PySem.W.keepIn K (.ref C) = true
  b : PySem.W.subIn K (.ref C) (.type "BaseException") = some true
  t : PySem.W.typeIn K (.ref C) = some (.type "type")
section
variable {P : Program} {w : World} {K : PySem.W.Frag} {mg : Str → Option Value} {base : Heap}
/-! ### check_shape -/
def spCheck (N m : Nat) (CI : Addr) : Sp := fun vs H Q E => ∃ x, vs = [x] ∧ Tv H N m x ∧ (shapeB H x = false → ∀ H', Same H H' → E (.ref CI) none H') ∧ (shapeB H x = true → ∀ H', Same H H' → Q .non H')
theorem scCheck : FnScope ["value"] ["value"] (defScope tCheck) := ⟨rfl, rfl, rfl, by decide +kernel, rfl, by decide +kernel, by decide +kernel⟩
theorem ok_check {N m k : Nat} {CI f fS : Addr} {fd fdS : FuncData} (F : Fun K "check_shape" "check_shape" tCheck f fd) (R : ErrV K mg "InvalidArgument" CI) (dS : Dn P w K mg base CX0 "is_shape" ["value"] k (spB N m shapeB) fS fdS) :
    FnOk P w K mg base (L2.CX P w) (k + 1) f fd ["value"] (spCheck N m CI) := by
  refine F.okX scCheck (fun vs H Q E h => ?_) (fun cdv A outer s H vs Q E hr h => ?_)
  · obtain ⟨x, rfl, _⟩ := h
    rfl
  · obtain ⟨x, rfl, tx, k1, k2⟩ := h
    refine ⟨_, pss_one (ps_if (pt_not (pt_val (pe_call dS.G hr rfl dS.g dS.kp dS.b .nil pass0 (pa_cons (pv 0) pa_nil)))) (pss_one (ps_raise rfl (takes_of rfl rfl rfl rfl) (pmk_own PySem.F.excBase_ValueError R.x R.g R.k (raises_own R.b R.t) rfl))) pss_nil), ?_⟩
    refine ⟨_, rfl, x, rfl, tx, fun H1 s1 => ?_⟩
    refine ⟨_, rfl, ?_⟩
    cases c : shapeB H x with
    | false => exact iteT (k1 c _ s1)
    | true => exact iteF (k2 c _ s1)
/-! ### is_store -/
def stB (H : Hp) (v : V) : Bool := stateB H v && (match tupV H v with
  | some (h :: _) => isS h "store"
  | _ => false)
theorem scIsStore : FnScope ["value"] ["value"] (defScope tIsStore) := ⟨rfl, rfl, rfl, by decide +kernel, rfl, by decide +kernel, by decide +kernel⟩
theorem bodyB_open {H : Hp} {v : V} (h : stateB H v = true) : ∃ a hd nm r rs, v = .ref a ∧ H a = some (.tup (hd :: nm :: r :: rs)) := by
  unfold stateB at h
  cases v with
  | ref a =>
    cases e : tupV H (.ref a) with
    | none =>
      rw [e] at h
      cases h
    | some xs =>
      rw [e] at h
      have e2 : H a = some (.tup xs) := by
        simp only [tupV] at e
        split at e
        · rename_i ys q
          cases e
          exact q
        · cases e
      match xs, h, e2 with
      | hd :: nm :: r :: rs, _, e2 => exact ⟨a, hd, nm, r, rs, rfl, e2⟩
  | _ => cases h
theorem ok_isstore {N m k : Nat} {f fS : Addr} {fd fdS : FuncData} (F : Fun K "is_store" "is_store" tIsStore f fd) (dS : Dn P w K mg base CX0 "is_statement" ["value"] k (spB N m stateB) fS fdS) :
    FnOk P w K mg base CX0 (k + 1) f fd ["value"] (spB N m stB) := by
  refine F.ok scIsStore (fun vs H Q E h => ?_) (fun cdv A outer s H vs Q E hr h => ?_)
  · obtain ⟨x, rfl, _⟩ := h
    rfl
  · obtain ⟨x, rfl, tx, kk⟩ := h
    have hu := Nat.lt_of_succ_lt (hu_of hr)
    refine ⟨_, pss_one (ps_ret (pe_and (pe_call dS.G hr rfl dS.g dS.kp dS.b .nil pass0 (pa_cons (pv 0) pa_nil)) (pe_one (pe_cmpR (op_eqX hu) (pe_ix ix_tup (pv 0) pe_int (fun _ _ => rfl)) pe_str (nomark _))))), ?_⟩
    refine ⟨_, rfl, x, rfl, tx, fun H1 s1 => ⟨_, rfl, ?_⟩⟩
    cases c : stateB H x with
    | false =>
      have q := kk H1 s1
      unfold stB at q
      rw [c, Bool.false_and] at q
      exact iteF q
    | true =>
      have q := kk H1 s1
      obtain ⟨a, hd, nm, r, rs, rfl, e⟩ := bodyB_open c
      unfold stB at q
      rw [c, Bool.true_and, tupV_of e] at q
      refine iteT ⟨_, rfl, a, _, 0, hd, rfl, rfl, SqT.of (s1 _ _ e), atI_nat (j := 0) rfl, strOf hd, _, rfl, ?_, q⟩
      rcases tx.tupcase (K := K) with ⟨a', xs, e1, e2, _, hx⟩ | ⟨nt, _⟩
      · cases e1
        rw [e] at e2
        cases e2
        exact ((hx hd (by simp)).same s1).text
      · rw [tupV_of e] at nt
        cases nt
/-! ### does_fit -/
theorem RSh.open {H : Hp} {v : V} {s : Sh} (h : RSh H v s) : ∃ a xs, v = .ref a ∧ H a = some (.tup (.str s.kind :: xs)) := by
  cases h with
  | hole e => exact ⟨_, _, rfl, e⟩
  | load e => exact ⟨_, _, rfl, e⟩
  | store e _ => exact ⟨_, _, rfl, e⟩
  | op e _ _ => exact ⟨_, _, rfl, e⟩
theorem RTr.open {H : Hp} {v : V} {t : Tr} (h : RTr H v t) : ∃ a xs, v = .ref a ∧ H a = some (.tup (.str t.kind :: xs)) := by
  cases h with
  | att e _ => exact ⟨_, _, rfl, e⟩
  | load e _ => exact ⟨_, _, rfl, e⟩
  | op e _ _ => exact ⟨_, _, rfl, e⟩
  | store e _ _ => exact ⟨_, _, rfl, e⟩
def spDoes (n : Nat) : Sp := fun vs H Q _ => ∃ v u s t, vs = [v, u] ∧ RSh H v s ∧ RTr H u t ∧ s.sz ≤ n ∧ s.sz ≤ 900 ∧ ∀ H', Same H H' → Q (.bl (fit s t)) H'
theorem scDoes : FnScope ["shape", "node", "part", "below"] ["shape", "node"] (defScope tDoes) := ⟨rfl, rfl, rfl, by decide +kernel, rfl, by decide +kernel, by decide +kernel⟩
theorem fitL_zip : ∀ (ps : List Sh) (ts : List Tr), (((ps.zip ts).map fun p => fit p.1 p.2).all id) = fitL ps ts
  | [], _ => by simp [fitL]
  | _ :: _, [] => by simp [fitL]
  | s :: r, t :: u => by
    rw [List.zip_cons_cons, List.map_cons, List.all_cons, fitL_zip r u, fitL]
    rfl
theorem str_dec (a b : Str) : decide ((some a : Option Str) = some b) = (a == b) := by
  by_cases h : a = b
  · rw [h]
    simp
  · rw [decide_eq_false (by simpa using h)]
    exact (beq_false_of_ne h).symm
theorem dec_beq (a b : Str) : decide (V.str a = V.str b) = (a == b) := by
  by_cases h : a = b
  · rw [h]
    simp
  · rw [decide_eq_false (by simpa using h)]
    exact (beq_false_of_ne h).symm
theorem step_does {n : Nat} {spR : Sp} {f : Addr} {fd : FuncData} (F : Fun K "does_fit" "does_fit" tDoes f fd) (T : Txt mg) (hzip : mg "zip" = none) (bF : Binds K fd ["shape", "node"] []) (gF : mg "does_fit" = some (.ref f))
    (GR : FnOk P w K mg base CX0 n f fd ["shape", "node"] spR) (hR : n ≠ 0 → spR = spDoes n) :
    FnOk P w K mg base CX0 (n + 1) f fd ["shape", "node"] (spDoes (n + 1)) := by
  refine F.ok scDoes (fun vs H Q E h => ?_) (fun cdv A outer s H vs Q E hr h => ?_)
  · obtain ⟨v, u, s, t, rfl, _⟩ := h
    rfl
  · obtain ⟨v, u, sh, tr, rfl, rs, rt, hz, h9, k⟩ := h
    refine ⟨_, pss_cons (ps_if (PW.pt (pw_or (pt_cmpR op_eq (pe_ix ix_tup (pv 0) pe_int (fun _ _ => rfl)) pe_str (nomark _)) (pw_or1 (pt_cmpR op_eq (pe_ix ix_tup (pv 1) pe_int (fun _ _ => rfl)) pe_str (nomark _)))))
        (pss_one (ps_ret (pe_and (pe_cmpR op_eq (pe_ix ix_tup (pv 0) pe_int (fun _ _ => rfl)) (pe_ix ix_tup (pv 1) pe_int (fun _ _ => rfl)) (nomark _))
          (pe_one (pe_call GR hr rfl gF F.kp bF .nil pass0 (pa_cons (pe_ix ix_tup (pv 0) pe_int (fun _ _ => rfl)) (pa_cons (pe_ix ix_tup (pv 1) pe_int (fun _ _ => rfl)) pa_nil))))))) pss_nil)
      (pss_cons (ps_if (pt_cmpR op_eq (pe_ix ix_tup (pv 0) pe_int (fun _ _ => rfl)) pe_str (nomark _)) (pss_one (ps_ret pe_bl)) pss_nil)
      (pss_cons (ps_if (PW.pt (pw_or (pt_cmpR op_eq (pe_ix ix_tup (pv 0) pe_int (fun _ _ => rfl)) pe_str (nomark _)) (pw_or1 (pt_cmpR op_ne (pe_ix ix_tup (pv 1) pe_int (fun _ _ => rfl)) pe_str (nomark _)))))
        (pss_one (ps_ret (pe_cmpR op_eq (pe_ix ix_tup (pv 0) pe_int (fun _ _ => rfl)) (pe_ix ix_tup (pv 1) pe_int (fun _ _ => rfl)) (nomark _)))) pss_nil)
      (pss_cons (ps_if (PW.pt (pw_or (pt_cmpR op_ne (pe_ix ix_tup (pv 0) pe_int (fun _ _ => rfl)) (pe_ix ix_tup (pv 1) pe_int (fun _ _ => rfl)) (nomark _))
          (pw_or1 (pt_cmpR op_ne (pe_callB call_len_seq (by rfl) T.len PySem.boot_len (pa_cons (pv 0) pa_nil)) (pe_callB call_len_seq (by rfl) T.len PySem.boot_len (pa_cons (pv 1) pa_nil)) (nomark _)))))
        (pss_one (ps_ret pe_bl)) pss_nil)
      (pss_one (ps_ret (pe_callB (cr_all (by rfl)) (by rfl) T.all (by decide +kernel) (pa_cons (pe_lc (own := [("part", 2), ("below", 3)]) (g := gTup K 2 (gCons (gName 2) (gCons (gName 3) gNil))) (tt := tYes) (by rfl) scDoes.nd
          (RZ.pi_zipA rfl hzip (pa_cons (pe_slice sl_tupA (pv 0) (po_some pe_int) po_none) (pa_cons (pe_slice sl_tupA (pv 1) (po_some pe_int) po_none) pa_nil)))
          (blkOk_by (own := [("part", 2), ("below", 3)]) (N := ["shape", "node", "part", "below"]) (sc := defScope tDoes) (by decide +kernel))
          (fun _ _ _ _ _ => pg_tup rfl (pgs_cons (pg_name (i := 2) scDoes.nd rfl (.inl rfl)) (pgs_cons (pg_name (i := 3) scDoes.nd rfl (.inl rfl)) pgs_nil))) (fun _ _ _ _ _ => pts_nil)
          (fun _ _ _ _ _ => pe_call GR hr rfl gF F.kp bF .nil pass0 (pa_cons (pv 2) (pa_cons (pv 3) pa_nil)))) pa_nil))))))), ?_⟩
    obtain ⟨a, xs, rfl, ea⟩ := rs.open
    obtain ⟨b, ys, rfl, eb⟩ := rt.open
    have recur : ∀ {s2 : Sh} {t2 : Tr} {v2 u2 : V} {H2 : Hp} {Q2 : VK}, Same H H2 → RSh H2 v2 s2 → RTr H2 u2 t2 → s2.sz ≤ n → s2.sz ≤ 900 → (∀ H', Same H2 H' → Q2 (.bl (fit s2 t2)) H') → spR [v2, u2] H2 Q2 E0 := by
      intro s2 t2 v2 u2 H2 Q2 _ h1 h2 h3 h9 h4
      have n0 : n ≠ 0 := by
        have := sz_pos s2
        omega
      rw [hR n0]
      exact ⟨v2, u2, s2, t2, rfl, h1, h2, h3, h9, h4⟩
    have k0 := k H (Same.refl H)
    refine ⟨_, rfl, a, _, 0, _, rfl, rfl, SqT.of ea, atI_nat (j := 0) rfl, rfl, _, rfl, ?_⟩
    rw [dec_beq]
    cases c1 : (sh.kind == ("store" : Str)) with
    | true =>
      refine iteT (iteT ?_)
      cases rs with
      | store e1 q1 =>
        rw [ea] at e1
        cases e1
        refine ⟨_, rfl, a, _, 0, _, rfl, rfl, SqT.of ea, atI_nat (j := 0) rfl, _, rfl, b, _, 0, _, rfl, rfl, SqT.of eb, atI_nat (j := 0) rfl, rfl, ?_⟩
        rw [dec_beq]
        refine ⟨_, rfl, ?_⟩
        cases rt with
        | store e2 l2 q2 =>
          rw [eb] at e2
          cases e2
          refine iteT ?_
          refine ⟨_, rfl, a, _, 1, _, rfl, rfl, SqT.of ea, atI_nat (j := 1) rfl, _, rfl, b, _, 5, _, rfl, rfl, SqT.of eb, atI_nat (j := 5) rfl, ?_⟩
          refine recur (Same.refl H) q1 q2 (by simp only [Sh.sz] at hz; omega) (by simp only [Sh.sz] at h9; omega) fun H' s' => ?_
          have := k H' s'
          rw [fit] at this
          exact this
        | att e2 l2 => exact iteF (by rw [fit] at k0 <;> first | exact k0 | (intro _ _ _ _ _ z; cases z))
        | load e2 l2 => exact iteF (by rw [fit] at k0 <;> first | exact k0 | (intro _ _ _ _ _ z; cases z))
        | op e2 l2 q2 => exact iteF (by rw [fit] at k0 <;> first | exact k0 | (intro _ _ _ _ _ z; cases z))
      | hole e1 => cases c1
      | load e1 => cases c1
      | op e1 _ _ => cases c1
    | false =>
      refine iteF ⟨_, rfl, b, _, 0, _, rfl, rfl, SqT.of eb, atI_nat (j := 0) rfl, rfl, _, rfl, ?_⟩
      rw [dec_beq]
      cases c2 : (tr.kind == ("store" : Str)) with
      | true =>
        refine iteT ?_
        refine ⟨_, rfl, a, _, 0, _, rfl, rfl, SqT.of ea, atI_nat (j := 0) rfl, _, rfl, b, _, 0, _, rfl, rfl, SqT.of eb, atI_nat (j := 0) rfl, rfl, ?_⟩
        rw [dec_beq]
        refine ⟨_, rfl, ?_⟩
        have et : tr.kind = "store" := eq_of_beq c2
        rw [et, c1]
        refine iteF ?_
        have z : fit sh tr = false := by
          cases rt with
          | store _ _ _ =>
            cases rs with
            | store _ _ => cases c1
            | hole _ => rfl
            | load _ => rfl
            | op _ _ _ => rfl
          | att _ _ => cases c2
          | load _ _ => cases c2
          | op _ _ _ => cases c2
        rw [z] at k0
        exact k0
      | false =>
        refine iteF ?_
        refine ⟨_, rfl, a, _, 0, _, rfl, rfl, SqT.of ea, atI_nat (j := 0) rfl, rfl, _, rfl, ?_⟩
        rw [dec_beq]
        cases rs with
        | store _ _ => cases c1
        | hole e1 =>
          have z : fit .hole tr = true := by
            cases rt with
            | store _ _ _ => cases c2
            | att _ _ => rfl
            | load _ _ => rfl
            | op _ _ _ => rfl
          rw [z] at k0
          exact iteT k0
        | load e1 =>
          refine iteF ⟨_, rfl, a, _, 0, _, rfl, rfl, SqT.of ea, atI_nat (j := 0) rfl, rfl, _, rfl, iteT ?_⟩
          refine ⟨_, rfl, a, _, 0, _, rfl, rfl, SqT.of ea, atI_nat (j := 0) rfl, _, rfl, b, _, 0, _, rfl, rfl, SqT.of eb, atI_nat (j := 0) rfl, rfl, ?_⟩
          rw [dec_beq]
          cases rt with
          | store _ _ _ => cases c2
          | att _ _ => exact k0
          | load _ _ => exact k0
          | op _ _ _ => exact k0
        | @op _ z vs ps e1 l1 q1 =>
          rw [ea] at e1
          cases e1
          simp only [Sh.sz] at hz h9
          have lenB : ps.length ≤ 900 := by have := szs_len ps; omega
          refine iteF ⟨_, rfl, a, _, 0, _, rfl, rfl, SqT.of ea, atI_nat (j := 0) rfl, rfl, _, rfl, iteF ?_⟩
          refine ⟨_, rfl, b, _, 0, _, rfl, rfl, SqT.of eb, atI_nat (j := 0) rfl, rfl, _, rfl, ?_⟩
          rw [dec_beq]
          have no : tr.kind ≠ "op" → fit (.op z ps) tr = false := fun c => by
            cases rt with
            | store _ _ _ => cases c2
            | att _ _ => rfl
            | load _ _ => rfl
            | op _ _ _ => exact absurd rfl c
          have leave : ∀ {H2 : Hp}, fit (.op z ps) tr = false → Same H H2 → Q (.bl false) H2 := fun c s2 => by
            have := k _ s2
            rw [c] at this
            exact this
          cases rt with
          | store _ _ _ => cases c2
          | att _ _ => 
            refine iteT ⟨_, rfl, a, _, 0, _, rfl, rfl, SqT.of ea, atI_nat (j := 0) rfl, _, rfl, b, _, 0, _, rfl, rfl, SqT.of eb, atI_nat (j := 0) rfl, rfl, ?_⟩
            exact k0
          | load _ _ =>
            refine iteT ⟨_, rfl, a, _, 0, _, rfl, rfl, SqT.of ea, atI_nat (j := 0) rfl, _, rfl, b, _, 0, _, rfl, rfl, SqT.of eb, atI_nat (j := 0) rfl, rfl, ?_⟩
            exact k0
          | @op _ y us ts e2 l2 q2 =>
            rw [eb] at e2
            cases e2
            refine iteF ⟨_, rfl, a, _, 1, _, rfl, rfl, SqT.of ea, atI_nat (j := 1) rfl, _, rfl, b, _, 1, _, rfl, rfl, SqT.of eb, atI_nat (j := 1) rfl, rfl, _, rfl, ?_⟩
            rw [dec_beq]
            have ef : fit (.op z ps) (.op y ts) = ((z == y && ps.length == ts.length) && fitL ps ts) := by rw [fit]
            cases c3 : (z == y) with
            | false =>
              refine iteT (leave ?_ (Same.refl H))
              rw [ef, c3]
              rfl
            | true =>
              refine iteF ⟨_, rfl, a, _, rfl, .inr (SqT.of ea), _, rfl, b, _, rfl, .inr (SqT.of eb), rfl, _, rfl, ?_⟩
              have l3 := q1.len
              have l4 := q2.len
              by_cases c4 : ps.length = ts.length
              · have zd : (!decide (V.int ((.str (Sh.op z ps).kind :: .str z :: vs : List V).length : Nat) = V.int ((.str (Tr.op y ts).kind :: .str y :: us : List V).length : Nat))) = false := by
                  rw [List.length_cons, List.length_cons, List.length_cons, List.length_cons, l3, l4, c4]
                  simp
                rw [zd]
                refine iteF ?_
                rw [ef, c3, show (ps.length == ts.length) = true from beq_iff_eq.mpr c4, Bool.true_and, Bool.true_and] at k
                refine ⟨_, rfl, _, rfl, ?_⟩
                unfold tNoPart
                refine sl_go ea fun p1 H1 s1 e1 => ?_
                rw [cut2] at e1
                refine ⟨_, rfl, _, rfl, ?_⟩
                refine sl_go (s1 _ _ eb) fun p2 H2 s2 e2 => ?_
                rw [cut2] at e2
                have e1' := s2 _ _ e1
                have s02 := s1.trans s2
                refine ⟨p1, p2, vs, us, rfl, .inr ⟨SqT.of e1', SqT.of e2, fun D hD => lc_it (walk_zipT (n := (ps.zip ts).length) (by rw [List.length_zip, l3, l4])) (fun i H' => Acc H2 D ((((ps.zip ts).take i).map fun p => fit p.1 p.2).map V.bl) H') (Acc.start hD) (fun i H' _ q' => ⟨SqT.of (q'.1 _ _ e1'), SqT.of (q'.1 _ _ e2)⟩) ?_ ?_⟩⟩
                · rintro i v H3 H4 hi q3 ⟨T3, x, y, rfl, nT, rfl, hx3, hy3⟩
                  have s4 : Same H3 (upd H3 T3 (.tup [x, y])) := grow nT
                  have e4 : (upd H3 T3 (.tup [x, y])) T3 = some (.tup [x, y]) := upd_same
                  revert s4 e4
                  generalize upd H3 T3 (.tup [x, y]) = H4
                  intro s4 e4
                  obtain ⟨s', hs', rs'⟩ := q1.at hx3
                  obtain ⟨t', ht', rt'⟩ := q2.at hy3
                  have s04 : Same H H4 := (s02.trans q3.1).trans s4
                  refine ⟨T3, _, rfl, SqT.of e4, rfl, _, _, rfl, _, _, rfl, rfl, ?_⟩
                  have zp : (ps.zip ts)[i]? = some (s', t') := by
                    rw [List.getElem?_zip_eq_some]
                    exact ⟨hs', ht'⟩
                  refine ⟨rfl, _, rfl, _, rfl, recur s04 (rs'.on s04) (rt'.on s04) (by have := szs_at hs'; omega) (by have := szs_at hs'; omega) fun H5 s5 => ?_⟩
                  have q5 := (q3.on s4).on s5
                  refine ⟨_, q5.2.2, ?_, ?_⟩
                  · have := szs_len ps
                    have : (1000 : Nat) < sizeLine := by decide
                    have lz : ps.length ≤ 900 := lenB
                    rw [List.length_map, List.length_map, List.length_take, List.length_zip]
                    omega
                  · rw [take_step _ zp, List.map_append]
                    exact q5.put
                · intro H3 q3
                  rw [List.take_length] at q3
                  refine ⟨D, _, rfl, SqL.of q3.2.2, ?_⟩
                  rw [fitL_zip]
                  exact k _ (s02.trans q3.1)
              · have zd : (!decide (V.int ((.str (Sh.op z ps).kind :: .str z :: vs : List V).length : Nat) = V.int ((.str (Tr.op y ts).kind :: .str y :: us : List V).length : Nat))) = true := by
                  rw [decide_eq_false]
                  · rfl
                  · intro q
                    have := V.int.inj q
                    rw [List.length_cons, List.length_cons, List.length_cons, List.length_cons, l3, l4] at this
                    omega
                rw [zd]
                refine iteT (leave ?_ (Same.refl H))
                rw [ef, show (ps.length == ts.length) = false from by simpa using c4, Bool.and_false, Bool.false_and]
theorem ok_does {f : Addr} {fd : FuncData} (F : Fun K "does_fit" "does_fit" tDoes f fd) (T : Txt mg) (hzip : mg "zip" = none) (bF : Binds K fd ["shape", "node"] []) (gF : mg "does_fit" = some (.ref f)) :
    ∀ n, FnOk P w K mg base CX0 (n + 1) f fd ["shape", "node"] (spDoes (n + 1))
  | 0 => step_does F T hzip bF gF (fnok_false (j := 0)) fun h => absurd rfl h
  | n + 1 => step_does F T hzip bF gF (ok_does F T hzip bF gF n) fun _ => rfl
end
end K19
namespace K19
open PySem L2
open L2.My
theorem headAt_kp {H H' : Hp} {N m : Nat} {v : V} (s : Kp H H') (t : Tv H N m v) : headAt H' v = headAt H v := by
  unfold headAt
  rw [tupV_kp t s]
theorem stateB_kp {H H' : Hp} {N m : Nat} {v : V} (s : Kp H H') (t : Tv H N m v) : stateB H' v = stateB H v := by
  have tr : ∀ {u : V}, Tv H N m u → tree4 H' u = tree4 H u := fun t => treeB_kp s t
  unfold stateB
  rw [tupV_kp t s]
  cases t with
  | @tup n a xs e l h =>
    rw [tupV_of e]
    have hx : ∀ x ∈ xs, Tv H N (n + 1) x := fun x hx => (h x hx).up
    match xs, hx with
    | [], _ => rfl
    | [_], _ => rfl
    | [_, _], _ => rfl
    | hd :: nm :: r :: rs, hx =>
      have e1 : setB H' (r :: rs) = setB H (r :: rs) := by
        match rs, hx with
        | [], hx =>
          show (tree4 H' r && !headAt H' r) = (tree4 H r && !headAt H r)
          rw [tr (hx r (by simp)), headAt_kp s (hx r (by simp))]
        | _ :: _, _ => rfl
      have e2 : storeB H' (r :: rs) = storeB H (r :: rs) := by
        match rs, hx with
        | [], _ => rfl
        | [_], _ => rfl
        | [_, _], _ => rfl
        | [sv, ov, tv], hx =>
          show (nameB r && (integB sv && (!isZero sv && (integB ov && tree4 H' tv)))) = (nameB r && (integB sv && (!isZero sv && (integB ov && tree4 H tv))))
          rw [tr (hx tv (by simp))]
        | _ :: _ :: _ :: _ :: _, _ => rfl
      show bodyB H' (hd :: nm :: r :: rs) = bodyB H (hd :: nm :: r :: rs)
      simp only [bodyB]
      rw [e1, e2]
  | lst e => simp only [tupV, e]
  | dct e => simp only [tupV, e]
  | _ => rfl
theorem stB_kp {H H' : Hp} {N m : Nat} {v : V} (s : Kp H H') (t : Tv H N m v) : stB H' v = stB H v := by
  unfold stB
  rw [stateB_kp s t, tupV_kp t s]
/-! ### good trees -/
def Tr.good : Nat → Tr → Bool
  | 0, _ => false
  | _ + 1, .att n d => nameZ n && (decide (0 ≤ d) && decide (d ≤ 3))
  | _ + 1, .load n i j => nameZ n && (inB i && inB j)
  | r + 1, .op z ts => nameZ z && (decide (ts.length ≤ 3) && ts.all (Tr.good r))
  | _ + 1, .store _ _ _ _ _ => false
theorem RTrs.mem {H : Hp} : ∀ {vs : List V} {ts : List Tr}, RTrs H vs ts → ∀ v ∈ vs, ∃ t ∈ ts, RTr H v t
  | _, _, .nil, v, h => by cases h
  | _, _, .cons q r, v, h => by
    rcases List.mem_cons.mp h with rfl | h
    · exact ⟨_, List.mem_cons_self .., q⟩
    · obtain ⟨t, m, q2⟩ := r.mem v h
      exact ⟨t, List.mem_cons_of_mem _ m, q2⟩
theorem in40 {i : Int} (h : inB i = true) : i.natAbs < 10 ^ 40 := by
  rw [inB_iff] at h
  have : (10 : Nat) ^ 40 = 10000000000000000000000000000000000000000 := by decide
  have : (10 : Int) ^ 30 = 1000000000000000000000000000000 := by decide
  omega
theorem RTr.tv {H : Hp} : ∀ {r : Nat} {v : V} {t : Tr}, RTr H v t → t.good r = true → Tv H 8 r v ∧ treeB H r v = true
  | 0, _, _, _, g => by simp [Tr.good] at g
  | r + 1, _, _, .att e l, g => by
    simp only [Tr.good, Bool.and_eq_true, decide_eq_true_eq] at g
    refine ⟨.tup e (by simp) (fun x hx => ?_), ?_⟩
    · simp only [List.mem_cons, List.not_mem_nil, or_false] at hx
      rcases hx with rfl | rfl | rfl
      · exact .str _ (by decide +kernel)
      · exact .str _ l
      · exact .int _ (by omega)
    · rw [treeB_tup e]
      simp [partsB, atB, isS, strOf, nameB, fewB, g]
  | r + 1, _, _, .load e l, g => by
    simp only [Tr.good, Bool.and_eq_true] at g
    refine ⟨.tup e (by simp) (fun x hx => ?_), ?_⟩
    · simp only [List.mem_cons, List.not_mem_nil, or_false] at hx
      rcases hx with rfl | rfl | rfl | rfl
      · exact .str _ (by decide +kernel)
      · exact .str _ l
      · exact .int _ (in40 g.2.1)
      · exact .int _ (in40 g.2.2)
    · rw [treeB_tup e]
      have z : isS (V.str "load") "at" = false := by decide +kernel
      have z2 : isS (V.str "load") "load" = true := by decide +kernel
      simp [partsB, loadB, z, z2, nameB, integB, g]
  | r + 1, _, .op z ts, .op (vs := vs) e l q, g => by
    simp only [Tr.good, Bool.and_eq_true, decide_eq_true_eq, List.all_eq_true] at g
    have kids : ∀ x ∈ vs, Tv H 8 r x ∧ treeB H r x = true := fun x hx => by
      obtain ⟨t, m, q2⟩ := q.mem x hx
      exact q2.tv (g.2.2 t m)
    have ql := q.len
    refine ⟨.tup e (by simp only [List.length_cons]; omega) (fun x hx => ?_), ?_⟩
    · rcases List.mem_cons.mp hx with rfl | hx
      · exact .str _ (by decide +kernel)
      rcases List.mem_cons.mp hx with rfl | hx
      · exact .str _ l
      · exact (kids x hx).1
    · rw [treeB_tup e]
      have z1 : isS (V.str "op") "at" = false := by decide +kernel
      have z2 : isS (V.str "op") "load" = false := by decide +kernel
      have z3 : isS (V.str "op") "op" = true := by decide +kernel
      have z4 : vs.all (treeB H r) = true := by
        rw [List.all_eq_true]
        exact fun x hx => (kids x hx).2
      have z5 : vs.length ≤ 3 := by omega
      simp [partsB, z1, z2, z3, z5, nameB, g.1]
      exact fun x hx => (kids x hx).2
  | r + 1, _, _, .store e l q, g => by simp [Tr.good] at g
def goodSt : Tr → Bool
  | .store n a i j t => nameZ n && (nameZ a && (inB i && (decide (i ≠ 0) && (inB j && t.good 4))))
  | _ => false
theorem RTr.st {H : Hp} {v : V} {t : Tr} (h : RTr H v t) (g : goodSt t = true) : Tv H 8 5 v ∧ tree4 H v = false ∧ stB H v = true := by
  cases h with
  | store e l q =>
    simp only [goodSt, Bool.and_eq_true, decide_eq_true_eq] at g
    obtain ⟨g1, g2, g3, g4, g5, g6⟩ := g
    obtain ⟨q1, q2⟩ := q.tv g6
    refine ⟨.tup e (by simp) (fun x hx => ?_), ?_, ?_⟩
    · simp only [List.mem_cons, List.not_mem_nil, or_false] at hx
      rcases hx with rfl | rfl | rfl | rfl | rfl | rfl
      · exact .str _ (by decide +kernel)
      · exact .str _ l.1
      · exact .str _ l.2
      · exact .int _ (in40 g3)
      · exact .int _ (in40 g5)
      · exact q1
    · unfold tree4
      rw [treeB_tup e]
      have z1 : isS (V.str "store") "at" = false := by decide +kernel
      have z2 : isS (V.str "store") "load" = false := by decide +kernel
      have z3 : isS (V.str "store") "op" = false := by decide +kernel
      simp [partsB, z1, z2, z3]
    · have z1 : isS (V.str "store") "set" = false := by decide +kernel
      have z2 : isS (V.str "store") "store" = true := by decide +kernel
      unfold stB
      rw [stateB_tup e, tupV_of e]
      simp [bodyB, z1, z2, storeB, nameB, integB, isZero, g1, g2, g3, g4, g5, tree4, q2]
  | att _ _ => simp [goodSt] at g
  | load _ _ => simp [goodSt] at g
  | op _ _ _ => simp [goodSt] at g
section
variable {P : Program} {w : World} {K : PySem.W.Frag} {mg : Str → Option Value} {base : Heap}
/-! ### fits -/
def spFits (N m n : Nat) (CA CT : Addr) : Sp := fun vs H Q E => ∃ x y, vs = [x, y] ∧ Tv H N m x ∧ Tv H N m y ∧ (shapeB H x = false → ∀ H', Same H H' → E (.ref CA) none H') ∧
  (shapeB H x = true → tree4 H y = false → stB H y = false → ∀ H', Same H H' → E (.ref CT) none H') ∧
  (shapeB H x = true → (tree4 H y = true ∨ stB H y = true) → ∃ s t, RSh H x s ∧ RTr H y t ∧ s.sz ≤ n + 1 ∧ s.sz ≤ 900 ∧ ∀ H', Same H H' → Q (.bl (fit s t)) H')
theorem scFits : FnScope ["shape", "tree"] ["shape", "tree"] (defScope tFits) := ⟨rfl, rfl, rfl, by decide +kernel, rfl, by decide +kernel, by decide +kernel⟩
theorem ok_fits {N m n k : Nat} {CA CT f fC fT fS fD : Addr} {fd fdC fdT fdS fdD : FuncData} (F : Fun K "fits" "fits" tFits f fd) (R : ErrV K mg "InvalidTree" CT)
    (dC : Dn P w K mg base (L2.CX P w) "check_shape" ["value"] k (spCheck N m CA) fC fdC) (dT : Dn P w K mg base CX0 "is_tree" ["value"] k (spB N m tree4) fT fdT) (dS : Dn P w K mg base CX0 "is_store" ["value"] k (spB N m stB) fS fdS)
    (dD : Dn P w K mg base CX0 "does_fit" ["shape", "node"] k (spDoes (n + 1)) fD fdD) :
    FnOk P w K mg base (L2.CX P w) (k + 1) f fd ["shape", "tree"] (spFits N m n CA CT) := by
  refine F.okX scFits (fun vs H Q E h => ?_) (fun cdv A outer s H vs Q E hr h => ?_)
  · obtain ⟨x, y, rfl, _⟩ := h
    rfl
  · obtain ⟨x, y, rfl, tx, ty, k1, k2, k3⟩ := h
    refine ⟨_, pss_cons (ps_expr (pe_callS dC.G hr rfl dC.g dC.kp dC.b (fun σ => passAt (takes_of rfl rfl rfl rfl) σ) (pa_cons (pv 0) pa_nil)))
      (pss_cons (ps_if (PW.pt (pw_and (pt_not (pt_val (pe_call dT.G hr rfl dT.g dT.kp dT.b .nil pass0 (pa_cons (pv 1) pa_nil)))) (pw_and1 (pt_not (pt_val (pe_call dS.G hr rfl dS.g dS.kp dS.b .nil pass0 (pa_cons (pv 1) pa_nil)))))))
        (pss_one (ps_raise rfl (takes_of rfl rfl rfl rfl) (pmk_own PySem.F.excBase_ValueError R.x R.g R.k (raises_own R.b R.t) rfl))) pss_nil)
      (pss_one (ps_ret (pe_call dD.G hr rfl dD.g dD.kp dD.b .nil pass0 (pa_cons (pv 0) (pa_cons (pv 1) pa_nil)))))), ?_⟩
    refine ⟨_, rfl, x, rfl, tx, fun c H1 s1 => k1 c H1 s1, fun c H1 s1 => ?_⟩
    have ty1 := ty.same s1
    refine ⟨_, rfl, y, rfl, ty1, fun H2 s2 => ⟨_, rfl, ?_⟩⟩
    rw [tree4_same s1 ty]
    have s02 := s1.trans s2
    have last : ∀ H3, Same H H3 → (tree4 H y = true ∨ stB H y = true) → spDoes (n + 1) [x, y] H3 Q E0 := fun H3 s3 c2 => by
      obtain ⟨s', t', r1, r2, z1, z2, q⟩ := k3 c c2
      exact ⟨x, y, s', t', rfl, r1.on s3, r2.on s3, z1, z2, fun H4 s4 => q H4 (s3.trans s4)⟩
    cases c1 : tree4 H y with
    | true => exact iteF ⟨_, rfl, _, rfl, last H2 s02 (.inl c1)⟩
    | false =>
      refine iteT ⟨_, rfl, y, rfl, ty1.same s2, fun H3 s3 => ⟨_, rfl, ?_⟩⟩
      rw [stB_kp (.of s02) ty]
      cases c2 : stB H y with
      | true => exact iteF ⟨_, rfl, _, rfl, last H3 (s02.trans s3) (.inr c2)⟩
      | false => exact iteT (k2 c c1 c2 H3 (s02.trans s3))
end
end K19
namespace K19
open PySem L2
open L2.My
abbrev nV (i : Nat) : V := .int (i : Nat)
/-- rows of a walk -/
inductive WRows (H : Hp) : List V → List (List Nat × Sh) → Prop
  | nil : WRows H [] []
  | cons {t b : Addr} {p : List Nat} {v : V} {s : Sh} {rs : List V} {ls : List (List Nat × Sh)} (e : H t = some (.tup [.ref b, v])) (eb : H b = some (.tup (p.map nV))) (q : RSh H v s) (r : WRows H rs ls) : WRows H (.ref t :: rs) ((p, s) :: ls)
theorem WRows.kp {H H' : Hp} {rs : List V} {ls : List (List Nat × Sh)} (r : WRows H rs ls) (s : Kp H H') : WRows H' rs ls := by
  induction r with
  | nil => exact .nil
  | cons e eb q r ih => exact .cons (s.tup _ _ e) (s.tup _ _ eb) (q.kp s) ih
theorem WRows.app {H : Hp} {rs rs2 : List V} {ls ls2 : List (List Nat × Sh)} (r : WRows H rs ls) (r2 : WRows H rs2 ls2) : WRows H (rs ++ rs2) (ls ++ ls2) := by
  induction r with
  | nil => exact r2
  | cons e eb q r ih => exact .cons e eb q ih
theorem WRows.len {H : Hp} {rs : List V} {ls : List (List Nat × Sh)} (r : WRows H rs ls) : rs.length = ls.length := by
  induction r with
  | nil => rfl
  | cons e eb q r ih => simp [ih]
theorem WRows.at {H : Hp} {rs : List V} {ls : List (List Nat × Sh)} (r : WRows H rs ls) : ∀ {i : Nat} {v : V}, rs[i]? = some v → ∃ t b p u s, v = .ref t ∧ H t = some (.tup [.ref b, u]) ∧ H b = some (.tup (p.map nV)) ∧ RSh H u s ∧ ls[i]? = some (p, s) := by
  induction r with
  | nil => intro i v h; simp at h
  | @cons t b p u s rs ls e eb q r ih =>
    intro i v h
    cases i with
    | zero =>
      cases h
      exact ⟨t, b, p, u, s, rfl, e, eb, q, rfl⟩
    | succ j => exact ih h
/-- paths -/
inductive PRows (H : Hp) : List V → List (List Nat) → Prop
  | nil : PRows H [] []
  | cons {b : Addr} {p : List Nat} {rs : List V} {ls : List (List Nat)} (eb : H b = some (.tup (p.map nV))) (r : PRows H rs ls) : PRows H (.ref b :: rs) (p :: ls)
theorem PRows.kp {H H' : Hp} {rs : List V} {ls : List (List Nat)} (r : PRows H rs ls) (s : Kp H H') : PRows H' rs ls := by
  induction r with
  | nil => exact .nil
  | cons eb r ih => exact .cons (s.tup _ _ eb) ih
theorem PRows.app {H : Hp} {rs rs2 : List V} {ls ls2 : List (List Nat)} (r : PRows H rs ls) (r2 : PRows H rs2 ls2) : PRows H (rs ++ rs2) (ls ++ ls2) := by
  induction r with
  | nil => exact r2
  | cons eb r ih => exact .cons eb ih
theorem PRows.len {H : Hp} {rs : List V} {ls : List (List Nat)} (r : PRows H rs ls) : rs.length = ls.length := by
  induction r with
  | nil => rfl
  | cons eb r ih => simp [ih]
def pathD (p : List Nat) : PyData := .tuple (p.map fun i => .int (i : Nat))
theorem dp_ints {K : PySem.W.Frag} {H : Hp} : ∀ p : List Nat, DpAll K H (p.map nV) (p.map fun i => .int (i : Nat))
  | [] => .nil
  | i :: r => .cons (.int _) (dp_ints r)
theorem PRows.dps {K : PySem.W.Frag} {H : Hp} {rs : List V} {ls : List (List Nat)} (r : PRows H rs ls) : DpAll K H rs (ls.map pathD) := by
  induction r with
  | nil => exact .nil
  | cons eb r ih => exact .cons (.tup (SqT.of eb) (dp_ints _)) ih
mutual
theorem walked_len : ∀ (s : Sh) (p : List Nat), (s.walked p).length = s.sz
  | .hole, p => rfl
  | .load, p => rfl
  | .store s, p => by
    simp only [Sh.walked, List.length_cons, walked_len s, Sh.sz]
    omega
  | .op _ ps, p => by
    simp only [Sh.walked, List.length_cons, walkedL_len ps, Sh.sz]
    omega
theorem walkedL_len : ∀ (ps : List Sh) (i : Nat) (p : List Nat), (walkedL ps i p).length = szs ps
  | [], _, _ => rfl
  | s :: r, i, p => by
    simp only [walkedL, List.length_append, walked_len s, walkedL_len r, szs]
end
theorem walkedL_app : ∀ (a b : List Sh) (k : Nat) (p : List Nat), walkedL (a ++ b) k p = walkedL a k p ++ walkedL b (k + a.length) p
  | [], b, k, p => by simp [walkedL]
  | s :: r, b, k, p => by
    simp only [List.cons_append, walkedL, walkedL_app r b, List.append_assoc, List.length_cons]
    rw [show k + 1 + r.length = k + (r.length + 1) by omega]
theorem walked_subs : ∀ (s : Sh) (p : List Nat), s.walked p = (p, s) :: walkedL s.subs 0 p
  | .hole, p => rfl
  | .load, p => rfl
  | .store s, p => by simp only [Sh.walked, Sh.subs, walkedL, Nat.add_zero, Nat.zero_add, List.append_nil]
  | .op _ ps, p => rfl
theorem sz_subs : ∀ s : Sh, s.sz = 1 + szs s.subs
  | .hole => rfl
  | .load => rfl
  | .store s => by simp only [Sh.sz, Sh.subs, szs, Nat.add_zero]
  | .op _ ps => by simp only [Sh.sz, Sh.subs]
theorem szs_take : ∀ (ps : List Sh) (i : Nat), szs (ps.take i) ≤ szs ps
  | [], i => by simp [szs]
  | s :: r, 0 => by simp [szs]
  | s :: r, i + 1 => by
    have := szs_take r i
    simp only [List.take_succ_cons, szs]
    omega
theorem take_snoc {α : Type} {xs : List α} {i : Nat} {x : α} (h : xs[i]? = some x) : xs.take (i + 1) = xs.take i ++ [x] := by
  obtain ⟨hi, hx⟩ := List.getElem?_eq_some_iff.mp h
  rw [← hx, List.take_succ_eq_append_getElem hi]
/-- the tuple of the parts of a shape -/
theorem RSh.parts {H : Hp} {a : Addr} {s : Sh} (h : RSh H (.ref a) s) : ∃ xs vs, H a = some (.tup (.str s.kind :: xs)) ∧ RShs H vs s.subs ∧
    ((s.kind == ("store" : Str)) = true → cutV (.str s.kind :: xs) (some 1) none = vs) ∧ ((s.kind == ("store" : Str)) = false → cutV (.str s.kind :: xs) (some 2) none = vs) := by
  cases h with
  | hole e => exact ⟨[], [], e, .nil, (fun c => nomatch c), fun _ => rfl⟩
  | load e => exact ⟨[], [], e, .nil, (fun c => nomatch c), fun _ => rfl⟩
  | store e h => exact ⟨_, _, e, .cons h .nil, fun _ => cut1, (fun c => nomatch c)⟩
  | op e l h => exact ⟨_, _, e, h, (fun c => nomatch c), fun _ => cut2⟩
section
variable {P : Program} {w : World} {K : PySem.W.Frag} {mg : Str → Option Value} {base : Heap}
/-! ### walked_shape -/
def spWalked (n : Nat) : Sp := fun vs H Q _ => ∃ v pb ps s, vs = [v, .ref pb] ∧ RSh H v s ∧ s.sz ≤ n ∧ H pb = some (.tup (ps.map nV)) ∧ ps.length + s.sz ≤ 1000 ∧
  ∀ R H' rows, Same H H' → H' R = some (.lst rows) → WRows H' rows (s.walked ps) → Q (.ref R) H'
theorem scWalked : FnScope ["shape", "path", "rows", "parts", "index", "part"] ["shape", "path"] (defScope tWalked) := ⟨rfl, rfl, rfl, by decide +kernel, rfl, by decide +kernel, by decide +kernel⟩
theorem step_walked {n : Nat} {spR : Sp} {f : Addr} {fd : FuncData} (F : Fun K "walked_shape" "walked_shape" tWalked f fd) (henum : mg "enumerate" = none) (bF : Binds K fd ["shape", "path"] []) (gF : mg "walked_shape" = some (.ref f))
    (GR : FnOk P w K mg base CX0 n f fd ["shape", "path"] spR) (hR : n ≠ 0 → spR = spWalked n) :
    FnOk P w K mg base CX0 (n + 1) f fd ["shape", "path"] (spWalked (n + 1)) := by
  refine F.ok scWalked (fun vs H Q E h => ?_) (fun cdv A outer s H vs Q E hr h => ?_)
  · obtain ⟨x, pb, ps, sh, rfl, _⟩ := h
    rfl
  · obtain ⟨x, pb, ps, sh, rfl, rs, hz, ep, lp, k⟩ := h
    refine ⟨_, pss_cons (ps_set (i := 2) scWalked.nd rfl (.inl rfl) (pe_lst (pa_cons (pe_tup (pa_cons (pv 1) (pa_cons (pv 0) pa_nil))) pa_nil)))
      (pss_cons (ps_set (i := 3) scWalked.nd rfl (.inl rfl) (pe_ifExp (pt_cmpR op_eq (pe_ix ix_tup (pv 0) pe_int (fun _ _ => rfl)) pe_str (nomark _)) (pe_slice sl_tupA (pv 0) (po_some pe_int) po_none) (pe_slice sl_tupA (pv 0) (po_some pe_int) po_none)))
      (pss_cons (ps_for PassesOwn.never rfl (pi_enumT rfl henum (pa_cons (pv 3) pa_nil)) (pg_tup rfl (pgs_cons (pg_name (i := 4) scWalked.nd rfl (.inl rfl)) (pgs_cons (pg_name (i := 5) scWalked.nd rfl (.inl rfl)) pgs_nil)))
          (pss_one (ps_expr (pe_bm PySem.F.plainAttrs_list PySem.F.slot_list_extend PySem.F.type_list_extend mt_extend (pv 2) (pa_cons (pe_call GR hr rfl gF F.kp bF .nil pass0 (pa_cons (pv 5) (pa_cons (pe_op op_catA (pv 1) (pe_tup (pa_cons (pv 4) pa_nil))) pa_nil))) pa_nil)))))
      (pss_one (ps_ret (pv 2))))), ?_⟩
    obtain ⟨a, rfl⟩ : ∃ a, x = .ref a := by
      obtain ⟨a, _, e, _⟩ := rs.open
      exact ⟨a, e⟩
    obtain ⟨xs, vs, e, rp, ct, cf⟩ := rs.parts
    refine ⟨_, rfl, _, rfl, (by show 2 ≤ sizeLine; decide), fun t nt => ?_⟩
    have s1 := grow (o := .tup [.ref pb, .ref a]) nt
    have et : (upd H t (.tup [.ref pb, .ref a])) t = some (.tup [.ref pb, .ref a]) := upd_same
    revert s1 et
    generalize upd H t (.tup [.ref pb, .ref a]) = H1
    intro s1 et
    refine ⟨(by show 1 ≤ sizeLine; decide), fun R nR => ?_⟩
    have s2 := grow (o := .lst [.ref t]) nR
    have eR : (upd H1 R (.lst [.ref t])) R = some (.lst [.ref t]) := upd_same
    revert s2 eR
    generalize upd H1 R (.lst [.ref t]) = H2
    intro s2 eR
    have s02 := s1.trans s2
    have r0 : WRows H2 [.ref t] [(ps, sh)] := .cons (s2 _ _ et) (s02 _ _ ep) (rs.on s02) .nil
    have a2 : Acc H1 R [.ref t] H2 := ⟨s2, nR, eR⟩
    rw [walked_subs] at k
    have hsz := sz_subs sh
    refine ⟨_, rfl, a, _, 0, _, rfl, rfl, SqT.of (s02 _ _ e), atI_nat (j := 0) rfl, rfl, _, rfl, ?_⟩
    rw [dec_beq]
    cases c1 : (sh.kind == ("store" : Str))
    case' true =>
      refine iteT ⟨_, rfl, _, rfl, ?_⟩
      unfold tNoPart
      refine sl_go (s02 _ _ e) fun p H3 s3 e3 => ?_
      rw [ct c1] at e3
    case' false =>
      refine iteF ⟨_, rfl, _, rfl, ?_⟩
      unfold tNoPart
      refine sl_go (s02 _ _ e) fun p H3 s3 e3 => ?_
      rw [cf c1] at e3
    all_goals
      have a3 := a2.on s3
      have r3 := r0.kp (.of s3)
      have s03 := s02.trans s3
      have nRp : R ≠ p := by
        intro z
        have q := a3.2.2
        rw [z, e3] at q
        cases q
      exact ⟨_, rfl, p, vs, rfl, SqT.of e3, for_it walk_enumT (fun i σ H' => ∃ o1 o2 rows, σ = [some (.ref a), some (.ref pb), some (.ref R), some (.ref p), o1, o2] ∧ Acc H1 R rows H' ∧ H' p = some (.tup vs) ∧
          WRows H' rows ((ps, sh) :: walkedL (sh.subs.take i) 0 ps)) ⟨none, none, _, rfl, a3, e3, by simpa [walkedL] using r3⟩ (fun i σ H' _ ⟨_, _, _, _, _, ep', _⟩ => SqT.of ep') (by
            rintro i x σ H4 H5 hi ⟨o1, o2, rows, rfl, a4, e4, r4⟩ ⟨T2, x2, y, rfl, nT, rfl, hx2, hy⟩
            cases hx2
            have s5 : Same H4 (upd H4 T2 (.tup [.int (i : Nat), y])) := grow nT
            have e5 : (upd H4 T2 (.tup [.int (i : Nat), y])) T2 = some (.tup [.int (i : Nat), y]) := upd_same
            revert s5 e5
            generalize upd H4 T2 (.tup [.int (i : Nat), y]) = H5
            intro s5 e5
            refine ⟨T2, _, rfl, SqT.of e5, rfl, _, _, rfl, _, _, rfl, rfl, ?_⟩
            refine ⟨_, rfl, .inl ⟨rfl, _, SqL.of (s5 _ _ a4.2.2)⟩, _, rfl, _, rfl, _, rfl, (by show 1 ≤ sizeLine; decide), fun q nq => ?_⟩
            have s6 : Same H5 (upd H5 q (.tup [.int (i : Nat)])) := grow nq
            have e6 : (upd H5 q (.tup [.int (i : Nat)])) q = some (.tup [.int (i : Nat)]) := upd_same
            revert s6 e6
            generalize upd H5 q (.tup [.int (i : Nat)]) = H6
            intro s6 e6
            have s06 : Same H H6 := ((s1.trans a4.1).trans s5).trans s6
            obtain ⟨sy, hsy, ry⟩ := rp.at hy
            have szy := szs_at hsy
            have pos := sz_pos sy
            have go : ∀ (pq : Addr) (H7 : Hp), Same H6 H7 → H7 pq = some (.tup ((ps ++ [i]).map nV)) →
                spR [y, .ref pq] H7 (fun v H8 => rExtend (.ref R) [v] H8 fun _ H9 => ∃ o1 o2 rows, [some (V.ref a), some (V.ref pb), some (V.ref R), some (V.ref p), some (V.int (i : Nat)), some y] = [some (V.ref a), some (V.ref pb), some (V.ref R), some (V.ref p), o1, o2] ∧ Acc H1 R rows H9 ∧ H9 p = some (.tup vs) ∧
                  WRows H9 rows ((ps, sh) :: walkedL (sh.subs.take (i + 1)) 0 ps)) E0 := by
              intro pq H7 s7 e7
              have sR := hR (by omega)
              subst sR
              have s07 := s06.trans s7
              refine ⟨y, pq, ps ++ [i], sy, rfl, ry.on s07, by omega, e7, by rw [List.length_append, List.length_singleton]; omega, fun R2 H8 zs s8 eR2 rz => ?_⟩
              have s48 : Same H4 H8 := ((s5.trans s6).trans s7).trans s8
              have a8 := a4.on s48
              have ro := (r4.kp (.of s48)).app rz
              have eZ : ((ps, sh) :: walkedL (sh.subs.take i) 0 ps) ++ sy.walked (ps ++ [i]) = (ps, sh) :: walkedL (sh.subs.take (i + 1)) 0 ps := by
                rw [take_snoc hsy, walkedL_app, List.length_take]
                have li := (List.getElem?_eq_some_iff.mp hsy).1
                simp only [walkedL, List.append_nil, List.cons_append, Nat.zero_add]
                rw [Nat.min_eq_left (by omega)]
              rw [eZ] at ro
              have lr := ro.len
              have lb : ((ps, sh) :: walkedL (sh.subs.take (i + 1)) 0 ps).length ≤ 1001 := by
                have := szs_take sh.subs (i + 1)
                rw [List.length_cons, walkedL_len]
                omega
              refine ⟨R, R2, rows, zs, rfl, rfl, a8.2.2, eR2, ?_, _, _, rows ++ zs, rfl, a8.put, ?_, ro.kp (.upd a8.2.2)⟩
              · have : (1001 : Nat) ≤ sizeLine := by decide
                rw [List.length_append] at lr
                omega
              · rw [upd_ne nRp.symm]
                exact s48 _ _ e4
            refine ⟨pb, q, ps.map nV, _, rfl, rfl, SqT.of (s06 _ _ ep), SqT.of e6, ?_, fun z => ?_, (fun _ z => absurd z (List.cons_ne_nil _ _)), fun _ _ p2 np2 => ?_⟩
            · have : (1002 : Nat) ≤ sizeLine := by decide
              rw [List.length_singleton, List.length_map]
              omega
            · have z2 : ps = [] := by simpa using z
              exact go q H6 (Same.refl H6) (by rw [e6, z2]; rfl)
            · exact go p2 _ (grow np2) (by rw [upd_same, List.map_append]; rfl)) (by
            rintro σ H4 ⟨o1, o2, rows, rfl, a4, e4, r4⟩
            have z : sh.subs.take vs.length = sh.subs := List.take_of_length_le (by rw [rp.len]; exact Nat.le_refl _)
            rw [z] at r4
            exact ⟨_, rfl, k R H4 rows (s1.trans a4.1) a4.2.2 r4⟩)⟩
end
end K19
namespace K19
open PySem L2
open L2.My
def pathsIn (k : Str) (l : List (List Nat × Sh)) : List (List Nat) := (l.filter fun r => r.2.kind == k).map (·.1)
theorem pathsIn_app (k : Str) (a b : List (List Nat × Sh)) : pathsIn k (a ++ b) = pathsIn k a ++ pathsIn k b := by
  unfold pathsIn
  rw [List.filter_append, List.map_append]
theorem pathsIn_len (k : Str) (a : List (List Nat × Sh)) : (pathsIn k a).length ≤ a.length := by
  unfold pathsIn
  rw [List.length_map]
  exact List.length_filter_le _ _
theorem len_at {K : PySem.W.Frag} {X : Cx} (e : X.K = K) : CallR X (.builtin "len") (fun xs H Q => ∃ p ys, xs = [.ref p] ∧ (SqL K H p ys ∨ SqT K H p ys) ∧ Q (.int ys.length) H) := e ▸ call_len_seq
theorem ix_at {K : PySem.W.Frag} {X : Cx} (e : X.K = K) : IxR X (rIxT K) := e ▸ ix_tup
section
variable {P : Program} {w : World} {K : PySem.W.Frag} {mg : Str → Option Value} {base : Heap}
theorem ok_walked {f : Addr} {fd : FuncData} (F : Fun K "walked_shape" "walked_shape" tWalked f fd) (henum : mg "enumerate" = none) (bF : Binds K fd ["shape", "path"] []) (gF : mg "walked_shape" = some (.ref f)) :
    ∀ n, FnOk P w K mg base CX0 (n + 1) f fd ["shape", "path"] (spWalked (n + 1))
  | 0 => step_walked F henum bF gF (fnok_false (j := 0)) fun h => absurd rfl h
  | n + 1 => step_walked F henum bF gF (ok_walked F henum bF gF n) fun _ => rfl
/-! ### paths_of -/
def spPaths (n : Nat) : Sp := fun vs H Q _ => ∃ v z s, vs = [v, .str z] ∧ RSh H v s ∧ s.sz ≤ n ∧ s.sz ≤ 1000 ∧
  ∀ t H' rows, Same H H' → H' t = some (.tup rows) → PRows H' rows (s.pathsOf z) → Q (.ref t) H'
theorem scPaths : FnScope ["shape", "kind", "path", "part"] ["shape", "kind"] (defScope tPaths) := ⟨rfl, rfl, rfl, by decide +kernel, rfl, by decide +kernel, by decide +kernel⟩
theorem ok_paths {n k : Nat} {f fW : Addr} {fd fdW : FuncData} (F : Fun K "paths_of" "paths_of" tPaths f fd) (htup : mg "tuple" = none) (dW : Dn P w K mg base CX0 "walked_shape" ["shape", "path"] k (spWalked n) fW fdW) :
    FnOk P w K mg base CX0 (k + 1) f fd ["shape", "kind"] (spPaths n) := by
  refine F.ok scPaths (fun vs H Q E h => ?_) (fun cdv A outer s H vs Q E hr h => ?_)
  · obtain ⟨x, z, sh, rfl, _⟩ := h
    rfl
  · obtain ⟨x, z, sh, rfl, rs, hz, h9, k⟩ := h
    have hu := Nat.lt_of_succ_lt (hu_of hr)
    refine ⟨_, pss_one (ps_ret (pe_callTy call_tuple_of (by rfl) htup (by decide +kernel) (pa_cons (pe_lc (own := [("path", 2), ("part", 3)]) (g := gTup K 2 (gCons (gName 2) (gCons (gName 3) gNil))) (tt := _) (by rfl) scPaths.nd
        (pi_list (pe_call dW.G hr rfl dW.g dW.kp dW.b .nil pass0 (pa_cons (pv 0) (pa_cons (pe_tup pa_nil) pa_nil))))
        (blkOk_by (own := [("path", 2), ("part", 3)]) (N := ["shape", "kind", "path", "part"]) (sc := defScope tPaths) (by decide +kernel))
        (fun _ _ _ _ _ => pg_tup rfl (pgs_cons (pg_name (i := 2) scPaths.nd rfl (.inl rfl)) (pgs_cons (pg_name (i := 3) scPaths.nd rfl (.inl rfl)) pgs_nil)))
        (fun _ _ _ _ _ => pts_one (pt_cmpR op_eq (pe_ix (ix_at (K := K) rfl) (pv 3) pe_int (fun _ _ => rfl)) (pv 1) (nomark _)))
        (fun _ _ _ _ _ => pv 2)) pa_nil))), ?_⟩
    refine ⟨_, rfl, (by show 0 ≤ sizeLine; decide), fun p np => ?_⟩
    have s1 := grow (o := .tup []) np
    have e1 : (upd H p (.tup [])) p = some (.tup []) := upd_same
    revert s1 e1
    generalize upd H p (.tup []) = H1
    intro s1 e1
    refine ⟨x, p, [], sh, rfl, rs.on s1, hz, e1, by simpa using h9, fun R H2 rows s2 eR wr => ?_⟩
    have s02 := s1.trans s2
    have lw := wr.len
    rw [walked_len] at lw
    have line : (1001 : Nat) ≤ sizeLine := by decide
    refine ⟨R, rfl, ⟨rows, SqL.of eR⟩, fun D hD => lc_list (K := K) (a := R) (xs := rows) (fun i H' => ∃ acc, Acc H2 D acc H' ∧ PRows H' acc (pathsIn z ((sh.walked []).take i))) ⟨[], Acc.start hD, .nil⟩ (fun i H' _ ⟨_, a, _⟩ => SqL.of (a.1 _ _ eR)) ?_ ?_⟩
    · rintro i v H3 hv ⟨acc, a3, p3⟩
      obtain ⟨t, b, pt, u, sp, rfl, et, eb, q, hl⟩ := (wr.kp (.of a3.1)).at hv
      have lp := p3.len
      have lb := pathsIn_len z ((sh.walked []).take i)
      have lt := List.length_take_le i (sh.walked [])
      have lt2 : ((sh.walked []).take i).length ≤ (sh.walked []).length := by rw [List.length_take]; omega
      rw [walked_len] at lt2
      refine ⟨t, _, rfl, SqT.of et, rfl, _, _, rfl, _, _, rfl, rfl, rfl, ?_⟩
      obtain ⟨a', xs, rfl, ea⟩ := q.open
      refine ⟨_, rfl, a', _, 0, _, rfl, rfl, SqT.of ea, atI_nat (j := 0) rfl, _, rfl, rfl, _, rfl, ?_⟩
      rw [dec_beq]
      have step : pathsIn z ((sh.walked []).take (i + 1)) = pathsIn z ((sh.walked []).take i) ++ pathsIn z [(pt, sp)] := by
        rw [take_snoc hl, pathsIn_app]
      cases c : (sp.kind == z) with
      | true =>
        refine iteT ⟨_, rfl, acc, a3.2.2, by omega, _, a3.put, ?_⟩
        rw [step]
        have : pathsIn z [(pt, sp)] = [pt] := by
          unfold pathsIn
          rw [List.filter_cons_of_pos (by exact c)]
          rfl
        rw [this]
        exact (p3.app (.cons eb .nil)).kp (.upd a3.2.2)
      | false =>
        refine iteF ⟨acc, a3, ?_⟩
        rw [step]
        have : pathsIn z [(pt, sp)] = [] := by
          unfold pathsIn
          rw [List.filter_cons_of_neg (by rw [c]; exact Bool.false_ne_true)]
          rfl
        rw [this, List.append_nil]
        exact p3
    · rintro H3 ⟨acc, a3, p3⟩
      have z1 : (sh.walked []).take rows.length = sh.walked [] := List.take_of_length_le (by rw [wr.len]; exact Nat.le_refl _)
      rw [z1] at p3
      refine ⟨D, acc, rfl, .inl ⟨SqL.of a3.2.2, fun l nl => ?_⟩⟩
      have s4 : Same H3 (upd H3 l (.tup acc)) := grow nl
      exact k l _ acc ((s02.trans a3.1).trans s4) upd_same (p3.kp (.of s4))
/-! ### holes, loads -/
def spHoles (N m n : Nat) (CA : Addr) (z : Str) : Sp := fun vs H Q E => ∃ x, vs = [x] ∧ Tv H N m x ∧ (shapeB H x = false → ∀ H', Same H H' → E (.ref CA) none H') ∧
  (shapeB H x = true → ∃ s, RSh H x s ∧ s.sz ≤ n ∧ s.sz ≤ 1000 ∧ ∀ t H' rows, Same H H' → H' t = some (.tup rows) → PRows H' rows (s.pathsOf z) → Q (.ref t) H')
theorem scHoles : FnScope ["shape"] ["shape"] (defScope tHoles) := ⟨rfl, rfl, rfl, by decide +kernel, rfl, by decide +kernel, by decide +kernel⟩
theorem scLoads : FnScope ["shape"] ["shape"] (defScope tLoads) := ⟨rfl, rfl, rfl, by decide +kernel, rfl, by decide +kernel, by decide +kernel⟩
theorem ok_holes {N m n k : Nat} {CA f fC fP : Addr} {fd fdC fdP : FuncData} (F : Fun K "holes" "holes" tHoles f fd) (dC : Dn P w K mg base (L2.CX P w) "check_shape" ["value"] k (spCheck N m CA) fC fdC) (dP : Dn P w K mg base CX0 "paths_of" ["shape", "kind"] k (spPaths n) fP fdP) :
    FnOk P w K mg base (L2.CX P w) (k + 1) f fd ["shape"] (spHoles N m n CA "hole") := by
  refine F.okX scHoles (fun vs H Q E h => ?_) (fun cdv A outer s H vs Q E hr h => ?_)
  · obtain ⟨x, rfl, _⟩ := h
    rfl
  · obtain ⟨x, rfl, tx, k1, k2⟩ := h
    refine ⟨_, pss_cons (ps_expr (pe_callS dC.G hr rfl dC.g dC.kp dC.b (fun σ => passAt (takes_of rfl rfl rfl rfl) σ) (pa_cons (pv 0) pa_nil)))
      (pss_one (ps_ret (pe_call dP.G hr rfl dP.g dP.kp dP.b .nil pass0 (pa_cons (pv 0) (pa_cons pe_str pa_nil))))), ?_⟩
    refine ⟨_, rfl, x, rfl, tx, fun c H1 s1 => k1 c H1 s1, fun c H1 s1 => ?_⟩
    obtain ⟨s', r, z1, z2, q⟩ := k2 c
    exact ⟨_, rfl, x, _, s', rfl, r.on s1, z1, z2, fun t H2 rows s2 e2 p2 => q t H2 rows (s1.trans s2) e2 p2⟩
theorem ok_loads {N m n k : Nat} {CA f fC fP : Addr} {fd fdC fdP : FuncData} (F : Fun K "loads" "loads" tLoads f fd) (dC : Dn P w K mg base (L2.CX P w) "check_shape" ["value"] k (spCheck N m CA) fC fdC) (dP : Dn P w K mg base CX0 "paths_of" ["shape", "kind"] k (spPaths n) fP fdP) :
    FnOk P w K mg base (L2.CX P w) (k + 1) f fd ["shape"] (spHoles N m n CA "load") := by
  refine F.okX scLoads (fun vs H Q E h => ?_) (fun cdv A outer s H vs Q E hr h => ?_)
  · obtain ⟨x, rfl, _⟩ := h
    rfl
  · obtain ⟨x, rfl, tx, k1, k2⟩ := h
    refine ⟨_, pss_cons (ps_expr (pe_callS dC.G hr rfl dC.g dC.kp dC.b (fun σ => passAt (takes_of rfl rfl rfl rfl) σ) (pa_cons (pv 0) pa_nil)))
      (pss_one (ps_ret (pe_call dP.G hr rfl dP.g dP.kp dP.b .nil pass0 (pa_cons (pv 0) (pa_cons pe_str pa_nil))))), ?_⟩
    refine ⟨_, rfl, x, rfl, tx, fun c H1 s1 => k1 c H1 s1, fun c H1 s1 => ?_⟩
    obtain ⟨s', r, z1, z2, q⟩ := k2 c
    exact ⟨_, rfl, x, _, s', rfl, r.on s1, z1, z2, fun t H2 rows s2 e2 p2 => q t H2 rows (s1.trans s2) e2 p2⟩
end
end K19
namespace K19
open PySem L2
open L2.My
mutual
theorem signs_len : ∀ s : Sh, s.signs.length ≤ 3 * s.sz
  | .hole => by simp [Sh.signs, Sh.sz]
  | .load => by simp [Sh.signs, Sh.sz]
  | .store s => by
    have := signs_len s
    simp only [Sh.signs, Sh.sz, List.length_cons]
    omega
  | .op z ps => by
    have := signsL_len ps
    simp only [Sh.signs, Sh.sz, List.length_cons, List.length_append, List.length_nil]
    omega
theorem signsL_len : ∀ ps : List Sh, (signsL ps).length ≤ 3 * szs ps
  | [] => by simp [signsL]
  | s :: r => by
    have := signs_len s
    have := signsL_len r
    simp only [signsL, szs, List.length_append]
    omega
end
theorem signsL_take {ps : List Sh} {i : Nat} {s : Sh} (h : ps[i]? = some s) : signsL (ps.take (i + 1)) = signsL (ps.take i) ++ s.signs := by
  rw [take_snoc h, signsL_app]
  simp [signsL]
section
variable {P : Program} {w : World} {K : PySem.W.Frag} {mg : Str → Option Value} {base : Heap}
/-! ### signs_of -/
def spSigns (n : Nat) : Sp := fun vs H Q _ => ∃ v s, vs = [v] ∧ RSh H v s ∧ s.sz ≤ n ∧ s.sz ≤ 300 ∧ ∀ R H', Same H H' → H' R = some (.lst (s.signs.map V.str)) → Q (.ref R) H'
theorem scSigns : FnScope ["shape", "signs", "part"] ["shape"] (defScope tSigns) := ⟨rfl, rfl, rfl, by decide +kernel, rfl, by decide +kernel, by decide +kernel⟩
theorem step_signs {n : Nat} {spR : Sp} {f : Addr} {fd : FuncData} (F : Fun K "signs_of" "signs_of" tSigns f fd) (bF : Binds K fd ["shape"] []) (gF : mg "signs_of" = some (.ref f))
    (GR : FnOk P w K mg base CX0 n f fd ["shape"] spR) (hR : n ≠ 0 → spR = spSigns n) :
    FnOk P w K mg base CX0 (n + 1) f fd ["shape"] (spSigns (n + 1)) := by
  refine F.ok scSigns (fun vs H Q E h => ?_) (fun cdv A outer s H vs Q E hr h => ?_)
  · obtain ⟨x, sh, rfl, _⟩ := h
    rfl
  · obtain ⟨x, sh, rfl, rs, hz, h9, k⟩ := h
    refine ⟨_, pss_cons (ps_if (pt_cmpR op_eq (pe_ix ix_tup (pv 0) pe_int (fun _ _ => rfl)) pe_str (nomark _)) (pss_one (ps_ret (pe_lst (pa_cons pe_str pa_nil)))) pss_nil)
      (pss_cons (ps_if (pt_cmpR op_eq (pe_ix ix_tup (pv 0) pe_int (fun _ _ => rfl)) pe_str (nomark _)) (pss_one (ps_ret (pe_lst (pa_cons pe_str pa_nil)))) pss_nil)
      (pss_cons (ps_if (pt_cmpR op_eq (pe_ix ix_tup (pv 0) pe_int (fun _ _ => rfl)) pe_str (nomark _)) (pss_one (ps_ret (pe_lst (pa_cons pe_str (StX.pa_star (pe_call GR hr rfl gF F.kp bF .nil pass0 (pa_cons (pe_ix ix_tup (pv 0) pe_int (fun _ _ => rfl)) pa_nil)) pa_nil))))) pss_nil)
      (pss_cons (ps_set (i := 1) scSigns.nd rfl (.inl rfl) (pe_lst (pa_cons (pe_ix ix_tup (pv 0) pe_int (fun _ _ => rfl)) (pa_cons pe_str pa_nil))))
      (pss_cons (ps_for PassesOwn.never rfl (pi_tup (pe_slice sl_tupA (pv 0) (po_some pe_int) po_none)) (pg_name (i := 2) scSigns.nd rfl (.inl rfl))
        (pss_one (ps_expr (pe_bm PySem.F.plainAttrs_list PySem.F.slot_list_extend PySem.F.type_list_extend mt_extend (pv 1) (pa_cons (pe_call GR hr rfl gF F.kp bF .nil pass0 (pa_cons (pv 2) pa_nil)) pa_nil)))))
      (pss_one (ps_ret (pe_lst (StX.pa_star (pv 1) (pa_cons pe_str pa_nil))))))))), ?_⟩
    have line : (1000 : Nat) ≤ sizeLine := by decide
    have recur : ∀ {s2 : Sh} {v2 : V} {H2 : Hp} {Q2 : VK}, RSh H2 v2 s2 → s2.sz ≤ n → s2.sz ≤ 300 → (∀ R H', Same H2 H' → H' R = some (.lst (s2.signs.map V.str)) → Q2 (.ref R) H') → spR [v2] H2 Q2 E0 := by
      intro s2 v2 H2 Q2 h1 h2 h3 h4
      have n0 : n ≠ 0 := by
        have := sz_pos s2
        omega
      rw [hR n0]
      exact ⟨v2, s2, rfl, h1, h2, h3, h4⟩
    obtain ⟨a, xs, rfl, ea⟩ := rs.open
    refine ⟨_, rfl, a, _, 0, _, rfl, rfl, SqT.of ea, atI_nat (j := 0) rfl, rfl, _, rfl, ?_⟩
    rw [dec_beq]
    cases rs with
    | hole e => exact iteT ⟨(by show 1 ≤ sizeLine; decide), fun R nR => k R _ (grow nR) upd_same⟩
    | load e =>
      refine iteF ⟨_, rfl, a, _, 0, _, rfl, rfl, SqT.of ea, atI_nat (j := 0) rfl, rfl, _, rfl, ?_⟩
      exact iteT ⟨(by show 1 ≤ sizeLine; decide), fun R nR => k R _ (grow nR) upd_same⟩
    | @store _ v2 s2 e q =>
      rw [ea] at e
      cases e
      simp only [Sh.sz] at hz h9
      refine iteF ⟨_, rfl, a, _, 0, _, rfl, rfl, SqT.of ea, atI_nat (j := 0) rfl, rfl, _, rfl, iteF ?_⟩
      refine ⟨_, rfl, a, _, 0, _, rfl, rfl, SqT.of ea, atI_nat (j := 0) rfl, rfl, _, rfl, iteT ?_⟩
      refine ⟨_, rfl, a, _, 1, _, rfl, rfl, SqT.of ea, atI_nat (j := 1) rfl, ?_⟩
      refine recur q (by omega) (by omega) fun R H1 s1 e1 => ?_
      have sl := signs_len s2
      refine ⟨R, _, rfl, .inr (SqL.of e1), ?_, fun R2 nR => ?_⟩
      · simp only [List.length_append, List.length_cons, List.length_map, List.length_nil]
        omega
      · refine k R2 _ (s1.trans (grow nR)) ?_
        rw [upd_same]
        simp [Sh.signs]
    | @op _ z vs ps e l q =>
      rw [ea] at e
      cases e
      simp only [Sh.sz] at hz h9
      refine iteF ⟨_, rfl, a, _, 0, _, rfl, rfl, SqT.of ea, atI_nat (j := 0) rfl, rfl, _, rfl, iteF ?_⟩
      refine ⟨_, rfl, a, _, 0, _, rfl, rfl, SqT.of ea, atI_nat (j := 0) rfl, rfl, _, rfl, iteF ?_⟩
      refine ⟨_, rfl, a, _, 1, _, rfl, rfl, SqT.of ea, atI_nat (j := 1) rfl, (by show 2 ≤ sizeLine; decide), fun R nR => ?_⟩
      have s1 := grow (o := .lst [.str z, .str "("]) nR
      have eR : (upd H R (.lst [.str z, .str "("])) R = some (.lst [.str z, .str "("]) := upd_same
      revert s1 eR
      generalize upd H R (.lst [.str z, .str "("]) = H1
      intro s1 eR
      have ea1 := s1 _ _ ea
      refine ⟨_, rfl, _, rfl, ?_⟩
      unfold tNoPart
      refine sl_go ea1 fun p H2 s2 e2 => ?_
      rw [cut2] at e2
      have nRp : R ≠ p := by
        intro z
        have q := s2 _ _ eR
        rw [z, e2] at q
        cases q
      have a2 : Acc H R [.str z, .str "("] H2 := ⟨s1.trans s2, nR, s2 _ _ eR⟩
      have ql := q.len
      refine ⟨p, rfl, ⟨_, SqT.of e2⟩, for_tup (xs := vs) (fun i σ H' => ∃ o2, σ = [some (.ref a), some (.ref R), o2] ∧ Acc H R ((z :: "(" :: signsL (ps.take i)).map V.str) H' ∧ H' p = some (.tup vs))
        ⟨none, rfl, by simpa [signsL] using a2, e2⟩ (fun i σ H' _ ⟨_, _, _, e⟩ => SqT.of e) ?_ ?_⟩
      · rintro i x σ H3 hx ⟨o2, rfl, a3, e3⟩
        obtain ⟨sy, hsy, ry⟩ := q.at hx
        have szy := szs_at hsy
        refine ⟨_, rfl, .inl ⟨rfl, _, SqL.of a3.2.2⟩, _, rfl, ?_⟩
        refine recur (ry.on a3.1) (by omega) (by omega) fun R2 H4 s4 e4 => ?_
        have a4 := a3.on s4
        have eS := signsL_take hsy
        refine ⟨R, R2, _, _, rfl, rfl, a4.2.2, e4, ?_, some x, rfl, ?_, ?_⟩
        · have l1 := signsL_len (ps.take (i + 1))
          have l2 := szs_take ps (i + 1)
          have l3 := congrArg List.length eS
          rw [List.length_append] at l3
          simp only [List.length_cons, List.length_map]
          omega
        · rw [eS, ← List.cons_append, ← List.cons_append, List.map_append]
          exact a4.put
        · rw [upd_ne nRp.symm]
          exact s4 _ _ e3
      · rintro σ H3 ⟨o2, rfl, a3, e3⟩
        rw [ql, List.take_length] at a3
        have l1 := signsL_len ps
        refine ⟨_, rfl, R, _, rfl, .inr (SqL.of a3.2.2), ?_, fun R2 nR2 => ?_⟩
        · simp only [List.length_append, List.length_cons, List.length_map, List.length_nil]
          omega
        · refine k R2 _ (a3.1.trans (grow nR2)) ?_
          rw [upd_same]
          simp [Sh.signs]
theorem ok_signs {f : Addr} {fd : FuncData} (F : Fun K "signs_of" "signs_of" tSigns f fd) (bF : Binds K fd ["shape"] []) (gF : mg "signs_of" = some (.ref f)) :
    ∀ n, FnOk P w K mg base CX0 (n + 1) f fd ["shape"] (spSigns (n + 1))
  | 0 => step_signs F bF gF (fnok_false (j := 0)) fun h => absurd rfl h
  | n + 1 => step_signs F bF gF (ok_signs F bF gF n) fun _ => rfl
/-! ### write_shape -/
def bigS (s : Sh) : Prop := (s.signs.map (·.length)).sum + s.signs.length * (" " : Str).length ≤ 16777216
def spWrite (N m n : Nat) (CA : Addr) : Sp := fun vs H Q E => ∃ x, vs = [x] ∧ Tv H N m x ∧ (shapeB H x = false → ∀ H', Same H H' → E (.ref CA) none H') ∧
  (shapeB H x = true → ∃ s, RSh H x s ∧ s.sz ≤ n ∧ s.sz ≤ 300 ∧ bigS s ∧ ∀ H', Same H H' → Q (.str (Txt.join " " s.signs)) H')
theorem scWrite : FnScope ["shape"] ["shape"] (defScope tWrite) := ⟨rfl, rfl, rfl, by decide +kernel, rfl, by decide +kernel, by decide +kernel⟩
theorem ok_write {N m n k : Nat} {CA f fC fS : Addr} {fd fdC fdS : FuncData} (F : Fun K "write_shape" "write_shape" tWrite f fd) (dC : Dn P w K mg base (L2.CX P w) "check_shape" ["value"] k (spCheck N m CA) fC fdC) (dS : Dn P w K mg base CX0 "signs_of" ["shape"] k (spSigns n) fS fdS) :
    FnOk P w K mg base (L2.CX P w) (k + 1) f fd ["shape"] (spWrite N m n CA) := by
  refine F.okX scWrite (fun vs H Q E h => ?_) (fun cdv A outer s H vs Q E hr h => ?_)
  · obtain ⟨x, rfl, _⟩ := h
    rfl
  · obtain ⟨x, rfl, tx, k1, k2⟩ := h
    refine ⟨_, pss_cons (ps_expr (pe_callS dC.G hr rfl dC.g dC.kp dC.b (fun σ => passAt (takes_of rfl rfl rfl rfl) σ) (pa_cons (pv 0) pa_nil)))
      (pss_one (ps_ret (pe_join pe_str (pe_call dS.G hr rfl dS.g dS.kp dS.b .nil pass0 (pa_cons (pv 0) pa_nil))))), ?_⟩
    refine ⟨_, rfl, x, rfl, tx, fun c H1 s1 => k1 c H1 s1, fun c H1 s1 => ?_⟩
    obtain ⟨s', r, z1, z2, z3, q⟩ := k2 c
    refine ⟨⟨_, rfl⟩, _, rfl, x, s', rfl, r.on s1, z1, z2, fun R H2 s2 e2 => ?_⟩
    exact ⟨_, R, s'.signs, rfl, rfl, .inl (SqL.of e2), z3, q H2 (s1.trans s2)⟩
end
end K19
namespace K19
open PySem L2
open L2.My
structure Words (ws : List Str) : Prop where
  len : ws.length ≤ 100
  ok : ∀ x ∈ ws, PyData.strOk x = true
  small : ∀ x ∈ ws, x.length ≤ 100
theorem Words.at {ws : List Str} (W : Words ws) {i : Nat} {x : Str} (h : ws[i]? = some x) : PyData.strOk x = true ∧ x.length ≤ 100 := ⟨W.ok x (List.mem_of_getElem? h), W.small x (List.mem_of_getElem? h)⟩
theorem Words.getD {ws : List Str} (W : Words ws) (i : Nat) : ((ws[i]?).getD "").length ≤ 100 := by
  cases e : ws[i]? with
  | none => decide +kernel
  | some x => exact (W.at e).2
/-- the one item from i on, as a list -/
def oneAt (ws : List Str) (i : Nat) : List Str := match ws[i]? with
  | none => []
  | some x => [x]
theorem cut_one {ws : List Str} {i : Nat} : cutV (ws.map V.str) (some ((i : Nat) : Int)) (some ((i + 1 : Nat) : Int)) = (oneAt ws i).map V.str := by
  unfold cutV oneAt
  rw [HT.sIx_nat, HT.sIx_nat, List.length_map]
  cases e : ws[i]? with
  | none =>
    have := List.getElem?_eq_none_iff.mp e
    rw [Nat.min_eq_right (by omega), Nat.min_eq_right (by omega), Nat.sub_self, List.take_zero]
    rfl
  | some x =>
    obtain ⟨hi, hx⟩ := List.getElem?_eq_some_iff.mp e
    rw [Nat.min_eq_left (by omega), Nat.min_eq_left (by omega), ← List.map_drop, drop_at e, show i + 1 - i = 1 by omega]
    rfl
theorem dp_strs {K : PySem.W.Frag} {H : Hp} : ∀ ws : List Str, DpAll K H (ws.map V.str) (ws.map PyData.str)
  | [] => .nil
  | x :: r => .cons (.str x) (dp_strs r)
theorem one_shaped {ws : List Str} (W : Words ws) (i : Nat) : SeqAt.shaped (.list ((oneAt ws i).map PyData.str)) = true := by
  unfold oneAt
  cases e : ws[i]? with
  | none => decide +kernel
  | some x =>
    have := (W.at e).1
    simp [SeqAt.shaped, PyData.canLay0, PyData.canLayAll0, this, PyData.depth, PyData.depthAll]
theorem one_eqv {ws : List Str} {i : Nat} {z : Str} : PyData.eqv (.list ((oneAt ws i).map PyData.str)) (.list [.str z]) = decide (ws[i]? = some z) := by
  unfold oneAt
  cases e : ws[i]? with
  | none => simp [PyData.eqv, PyData.eqvAll]
  | some x =>
    simp only [List.map_cons, List.map_nil, PyData.eqv, PyData.eqvAll, Bool.and_true]
    by_cases c : x = z
    · subst c
      simp
    · simp [c]
theorem loop_end {f : Nat → Option (Sh × Nat)} {ws : List Str} {g i : Nat} {acc : List Sh} (h : ws[i]? = none ∨ ws[i]? = some (")" : Str)) : loopP f ws (g + 1) i acc = some (acc, i) := by
  simp only [loopP]
  rcases h with h | h
  · rw [h]
  · rw [h]
    rfl
theorem loop_on {f : Nat → Option (Sh × Nat)} {ws : List Str} {g i : Nat} {acc : List Sh} {x : Str} (h : ws[i]? = some x) (n : (x == (")" : Str)) = false) : loopP f ws (g + 1) i acc = (match f i with
      | none => none
      | some (s, b) => loopP f ws g b (acc ++ [s])) := by
  simp only [loopP, h, n]
  rfl
theorem RShs.snoc {H : Hp} : ∀ {vs : List V} {ps : List Sh}, RShs H vs ps → ∀ {v : V} {s : Sh}, RSh H v s → RShs H (vs ++ [v]) (ps ++ [s])
  | _, _, .nil, _, _, h => .cons h .nil
  | _, _, .cons q r, _, _, h => .cons q (r.snoc h)
section
variable {P : Program} {w : World} {K : PySem.W.Frag} {mg : Str → Option Value} {base : Heap}
/-! ### read_part -/
def spPart (n : Nat) : Sp := fun vs H Q _ => ∃ a ws i, vs = [.ref a, .int ((i : Nat) : Int)] ∧ H a = some (.lst (ws.map V.str)) ∧ Words ws ∧ ws.length < i + n ∧ i ≤ 100 ∧
  (part n ws i = none → ∀ t y H', Same H H' → H' t = some (.tup [.non, y]) → (∃ j : Nat, y = .int (j : Nat)) → Q (.ref t) H') ∧
  (∀ s b, part n ws i = some (s, b) → ∀ t v H', Same H H' → H' t = some (.tup [v, .int ((b : Nat) : Int)]) → RSh H' v s → Q (.ref t) H')
theorem scPart : FnScope ["signs", "at", "sign", "parts", "part"] ["signs", "at"] (defScope tPart) := ⟨rfl, rfl, rfl, by decide +kernel, rfl, by decide +kernel, by decide +kernel⟩
theorem step_part {N m n : Nat} {spR : Sp} {f fN : Addr} {fd fdN : FuncData} (F : Fun K "read_part" "read_part" tPart f fd) (T : Txt mg) (bF : Binds K fd ["signs", "at"] []) (gF : mg "read_part" = some (.ref f))
    (dN : Dn P w K mg base CX0 "is_name" ["value"] 1 (spV N m nameB) fN fdN)
    (GR : FnOk P w K mg base CX0 (n + 1) f fd ["signs", "at"] spR) (hR : n ≠ 0 → spR = spPart n) :
    FnOk P w K mg base CX0 (n + 1 + 1) f fd ["signs", "at"] (spPart (n + 1)) := by
  refine F.ok scPart (fun vs H Q E h => ?_) (fun cdv A outer s H vs Q E hr h => ?_)
  · obtain ⟨a, ws, i, rfl, _⟩ := h
    rfl
  · obtain ⟨a, ws, i, rfl, ea, W, hl, hi, kn, ks⟩ := h
    have hr1 : Room 1 _ := hr.mono (by omega)
    have hu : (A.deeper (PyProof.Rows.envOfC "read_part" (defScope tPart) s.heap.objs.size f cdv)).units + 64 < cLine := by
      have := hr.un
      omega
    refine ⟨_, pss_cons (ps_set (i := 2) scPart.nd rfl (.inl rfl) (pe_ifExp (pt_cmpR op_lt (pv 1) (pe_callB call_len_seq (by rfl) T.len PySem.boot_len (pa_cons (pv 0) pa_nil)) (nomark _)) (pe_ix ix_list (pv 0) (pv 1) (fun _ _ => rfl)) pe_str))
      (pss_cons (ps_if (PW.pt (pw_or (pt_cmpR op_eq (pv 2) pe_str (nomark _)) (pw_or1 (pt_cmpR op_eq (pv 2) pe_str (nomark _)))))
        (pss_one (ps_ret (pe_tup (pa_cons (pe_ifExp (pt_cmpR op_eq (pv 2) pe_str (nomark _)) (pe_tup (pa_cons pe_str pa_nil)) (pe_tup (pa_cons pe_str pa_nil))) (pa_cons (pe_op op_add (pv 1) pe_int) pa_nil))))) pss_nil)
      (pss_cons (ps_if (PW.pt (pw_or (pt_not (pt_val (pe_call dN.G hr1 rfl dN.g dN.kp dN.b .nil pass0 (pa_cons (pv 2) pa_nil))))
          (pw_or1 (pt_cmpR (op_neD hu) (pe_slice sl_list (pv 0) (po_some (pe_op op_add (pv 1) pe_int)) (po_some (pe_op op_add (pv 1) pe_int))) (pe_lst (pa_cons pe_str pa_nil)) (nomark _)))))
        (pss_one (ps_ret (pe_tup (pa_cons pe_non (pa_cons (pv 1) pa_nil))))) pss_nil)
      (pss_cons (ps_set (i := 3) scPart.nd rfl (.inl rfl) (pe_lst (pa_cons pe_str (pa_cons (pv 2) pa_nil))))
      (pss_cons (ps_aug (i := 1) scPart.nd rfl (.inl rfl) pe_int ip_add)
      (pss_cons (ps_while PassesOwn.never (PW.pt (pw_and (pt_cmpR op_lt (pv 1) (pe_callB call_len_seq (by rfl) T.len PySem.boot_len (pa_cons (pv 0) pa_nil)) (nomark _)) (pw_and1 (pt_cmpR op_ne (pe_ix ix_list (pv 0) (pv 1) (fun _ _ => rfl)) pe_str (nomark _)))))
        (pss_cons (ps_asg (pe_call GR hr rfl gF F.kp bF .nil pass0 (pa_cons (pv 0) (pa_cons (pv 1) pa_nil))) (pg_tup rfl (pgs_cons (pg_name (i := 4) scPart.nd rfl (.inl rfl)) (pgs_cons (pg_name (i := 1) scPart.nd rfl (.inl rfl)) pgs_nil))))
        (pss_cons (ps_if (pt_cmpR op_isN (pv 4) pe_non (nomark _)) (pss_one (ps_ret (pe_tup (pa_cons pe_non (pa_cons (pv 1) pa_nil))))) pss_nil)
        (pss_one (ps_expr (pe_bm PySem.F.plainAttrs_list PySem.F.slot_list_append PySem.F.type_list_append mt_append (pv 3) (pa_cons (pv 4) pa_nil)))))))
      (pss_one (ps_ret (pe_ifExp (pt_cmpR op_lt (pv 1) (pe_callB call_len_seq (by rfl) T.len PySem.boot_len (pa_cons (pv 0) pa_nil)) (nomark _)) (pe_tup (pa_cons (pe_callTy call_tuple_of (by rfl) T.tuple (by decide +kernel) (pa_cons (pv 3) pa_nil)) (pa_cons (pe_op op_add (pv 1) pe_int) pa_nil))) (pe_tup (pa_cons pe_non (pa_cons (pv 1) pa_nil))))))))))), ?_⟩
    have lp : ∀ n : Nat, n ≤ 1000 → n ≤ sizeLine := fun n h => Nat.le_trans h (by decide)
    have two : ∀ {H1 : Hp} {v : V} {y : V} {Q1 : VK}, (∀ t H', Same H1 H' → H' t = some (.tup [v, y]) → Q1 (.ref t) H') → [v, y].length ≤ sizeLine ∧ ∀ t, H1 t = none → Q1 (.ref t) (upd H1 t (.tup [v, y])) := fun k => ⟨lp 2 (by decide), fun t nt => k t _ (grow nt) upd_same⟩
    refine ⟨_, rfl, _, rfl, a, _, rfl, .inl (SqL.of ea), _, _, rfl, rfl, _, rfl, ?_⟩
    obtain ⟨x, hx⟩ : ∃ x, x = (ws[i]?).getD "" := ⟨_, rfl⟩
    have eP : part (n + 1) ws i = if (x == ("_" : Str)) = true then some (.hole, i + 1) else if (x == ("@" : Str)) = true then some (.load, i + 1)
      else if nameZ x = true ∧ ws[i + 1]? = some ("(" : Str) then match loopP (part n ws) ws (n + 1) (i + 2) [] with
        | none => none
        | some (acc, b) => if b < ws.length then some (.op x acc, b + 1) else none
      else none := by rw [hx]; rfl
    have xl : x.length ≤ 100 := by rw [hx]; exact W.getD i
    rw [eP] at kn ks
    -- the sign
    refine ite2 (fun c => ?_) (fun c => ?_)
    case' refine_1 =>
      have c2 := of_decide_eq_true c
      rw [List.length_map] at c2
      have ex : ws[i]? = some x := by
        have c3 : i < ws.length := by omega
        rw [hx, List.getElem?_eq_getElem c3]
        rfl
      refine ⟨_, rfl, _, rfl, a, _, i, V.str x, rfl, rfl, SqL.of ea, atI_nat (j := i) (by rw [List.getElem?_map, ex]; rfl), ?_⟩
    case' refine_2 =>
      have c2 : ¬ ((i : Int) < ((ws.map V.str).length : Nat)) := fun z => c (decide_eq_true z)
      rw [List.length_map] at c2
      have ex : x = "" := by
        have c3 : ws.length ≤ i := by omega
        rw [hx, List.getElem?_eq_none c3]
        rfl
      rw [show (V.str "" : V) = V.str x by rw [ex]]
    all_goals
      refine ⟨_, rfl, rfl, _, rfl, ?_⟩
      rw [dec_beq]
      cases d1 : (x == ("_" : Str)) with
      | true =>
        refine iteT (iteT ⟨_, rfl, rfl, _, rfl, ?_⟩)
        rw [dec_beq, d1]
        refine iteT ⟨(by show 1 ≤ sizeLine; decide), fun t1 n1 => ?_⟩
        refine ⟨_, rfl, _, _, rfl, rfl, ?_⟩
        have s1 := grow (o := .tup [.str "hole"]) n1
        refine two fun t H' s' e' => ?_
        rw [d1] at ks
        exact ks .hole (i + 1) rfl t (.ref t1) H' (s1.trans s') e' (.hole (s' _ _ upd_same))
      | false =>
        refine iteF ⟨_, rfl, rfl, _, rfl, ?_⟩
        rw [dec_beq]
        cases d2 : (x == ("@" : Str)) with
        | true =>
          refine iteT ⟨_, rfl, rfl, _, rfl, ?_⟩
          rw [dec_beq, d1]
          refine iteF ⟨(by show 1 ≤ sizeLine; decide), fun t1 n1 => ?_⟩
          refine ⟨_, rfl, _, _, rfl, rfl, ?_⟩
          have s1 := grow (o := .tup [.str "load"]) n1
          refine two fun t H' s' e' => ?_
          rw [d1, d2] at ks
          exact ks .load (i + 1) rfl t (.ref t1) H' (s1.trans s') e' (.load (s' _ _ upd_same))
        | false =>
          rw [d1, d2] at ks kn
          simp only [Bool.false_eq_true, if_false] at ks kn
          refine iteF ⟨_, rfl, _, rfl, .str x xl, fun H1 s1 => ⟨_, rfl, ?_⟩⟩
          have nope : ∀ {H2 : Hp}, Same H H2 → ¬ (nameZ x = true ∧ ws[i + 1]? = some ("(" : Str)) → [V.non, V.int (i : Nat)].length ≤ sizeLine ∧ ∀ t, H2 t = none → Q (.ref t) (upd H2 t (.tup [.non, .int (i : Nat)])) := by
            intro H2 s2 c
            refine two fun t H' s' e' => ?_
            rw [if_neg c] at kn
            exact kn rfl t _ H' (s2.trans s') e' ⟨i, rfl⟩
          show if (!nameZ x) = true then _ else _
          cases d3 : nameZ x with
          | false =>
            refine iteT (iteT ⟨_, rfl, nope s1 (fun z => by rw [d3] at z; cases z.1)⟩)
          | true =>
            refine iteF ⟨_, rfl, _, rfl, _, _, rfl, rfl, _, rfl, _, rfl, _, _, rfl, rfl, _, rfl, a, _, rfl, SqL.of (s1 _ _ ea), fun p np => ?_⟩
            rw [show ((i : Nat) : Int) + 1 = ((i + 1 : Nat) : Int) by omega, show ((i : Nat) : Int) + 2 = ((i + 1 + 1 : Nat) : Int) by omega, cut_one]
            have s2 := grow (o := .lst ((oneAt ws (i + 1)).map V.str)) np
            have e2 : (upd H1 p (.lst ((oneAt ws (i + 1)).map V.str))) p = some (.lst ((oneAt ws (i + 1)).map V.str)) := upd_same
            revert s2 e2
            generalize upd H1 p (.lst ((oneAt ws (i + 1)).map V.str)) = H2
            intro s2 e2
            refine ⟨(by show 1 ≤ sizeLine; decide), fun p3 np3 => ?_⟩
            have s3 := grow (o := .lst [.str "("]) np3
            have e3 : (upd H2 p3 (.lst [.str "("])) p3 = some (.lst [.str "("]) := upd_same
            revert s3 e3
            generalize upd H2 p3 (.lst [.str "("]) = H3
            intro s3 e3
            have s03 := (s1.trans s2).trans s3
            refine ⟨_, _, .lst (SqL.of (s3 _ _ e2)) (dp_strs _), .lst (SqL.of e3) (.cons (.str _) .nil), one_shaped W _, by decide +kernel, _, rfl, ?_⟩
            rw [one_eqv]
            by_cases d4 : ws[i + 1]? = some ("(" : Str)
            · rw [decide_eq_true d4]
              refine iteF ?_
              rw [if_pos ⟨d3, d4⟩] at ks kn
              refine ⟨_, rfl, (by show 2 ≤ sizeLine; decide), fun R nR => ?_⟩
              have s4 := grow (o := .lst [.str "op", .str x]) nR
              have e4 : (upd H3 R (.lst [.str "op", .str x])) R = some (.lst [.str "op", .str x]) := upd_same
              revert s4 e4
              generalize upd H3 R (.lst [.str "op", .str x]) = H4
              intro s4 e4
              have a4 : Acc H3 R [.str "op", .str x] H4 := ⟨s4, nR, e4⟩
              refine ⟨_, rfl, _, _, rfl, rfl, ?_⟩
              have i1 := (List.getElem?_eq_some_iff.mp d4).1
              have W1 := W.len
              refine ⟨fun g σ H5 => ∃ vs acc j o, σ = [some (V.ref a), some (V.int (j : Nat)), some (.str x), some (.ref R), o] ∧ Acc H3 R (.str "op" :: .str x :: vs) H5 ∧ RShs H5 vs acc ∧ vs.length + i + 2 ≤ j ∧ j ≤ 101 ∧ ws.length < j + (g + 1) ∧
                loopP (part n ws) ws (n + 1) (i + 2) [] = loopP (part n ws) ws (g + 1) j acc, ⟨n, [], [], i + 2, none, by rw [show ((i + 2 : Nat) : Int) = (i : Int) + 2 by omega]; rfl, a4, .nil, by simp, by omega, by omega, rfl⟩, ?_⟩
              rintro g σ H5 ⟨vs, acc, j, o, rfl, a5, r5, lv, lj, lg, eL⟩
              have s05 := s03.trans a5.1
              have e5 := s05 _ _ ea
              have ends : ws[j]? = none ∨ ws[j]? = some (")" : Str) ∨ ∃ y, ws[j]? = some y ∧ (y == (")" : Str)) = false := by
                cases e : ws[j]? with
                | none => exact .inl rfl
                | some y =>
                  by_cases c : y = ")"
                  · exact .inr (.inl (by rw [c]))
                  · exact .inr (.inr ⟨y, rfl, by simpa using c⟩)
              refine ⟨_, rfl, _, rfl, a, _, rfl, .inl (SqL.of e5), _, _, rfl, rfl, _, rfl, ?_⟩
              rcases ends with e | e | ⟨y, e, ny⟩
              case' inl =>
                rw [loop_end (.inl e)] at eL
                have c2 := List.getElem?_eq_none_iff.mp e
                refine iteDn (by rw [List.length_map]; omega) ?_
              case' inr.inl =>
                rw [loop_end (.inr e)] at eL
                have c2 := (List.getElem?_eq_some_iff.mp e).1
                refine iteD (by rw [List.length_map]; omega) ?_
                refine ⟨_, rfl, _, rfl, a, _, j, _, rfl, rfl, SqL.of e5, atI_nat (j := j) (by rw [List.getElem?_map, e]; rfl), rfl, _, rfl, ?_⟩
                refine iteF ?_
              case inr.inr =>
                have c2 := (List.getElem?_eq_some_iff.mp e).1
                rw [loop_on e ny] at eL
                refine iteD (by rw [List.length_map]; omega) ?_
                refine ⟨_, rfl, _, rfl, a, _, j, _, rfl, rfl, SqL.of e5, atI_nat (j := j) (by rw [List.getElem?_map, e]; rfl), rfl, _, rfl, ?_⟩
                rw [dec_beq, ny]
                refine iteT ?_
                have n0 : n ≠ 0 := by omega
                rw [hR n0]
                refine ⟨_, (fun _ _ z => z), ?_⟩
                refine ⟨_, rfl, _, rfl, a, ws, j, rfl, e5, W, by omega, by omega, fun en t y2 H6 s6 e6 jn => ?_, fun sh b en t v H6 s6 e6 rv => ?_⟩
                · obtain ⟨j2, rfl⟩ := jn
                  rw [en] at eL
                  rw [eL] at kn
                  refine ⟨t, _, rfl, SqT.of e6, rfl, _, _, rfl, _, _, rfl, rfl, ?_⟩
                  refine ⟨_, rfl, rfl, _, rfl, ?_⟩
                  refine iteT ⟨_, rfl, ?_⟩
                  refine two fun t H' s' e' => ?_
                  exact kn rfl t _ H' ((s05.trans s6).trans s') e' ⟨j2, rfl⟩
                · rw [en] at eL
                  obtain ⟨b1, b2, _⟩ := part_reads n ws j sh b en
                  refine ⟨t, _, rfl, SqT.of e6, rfl, _, _, rfl, _, _, rfl, rfl, ?_⟩
                  refine ⟨_, rfl, rfl, _, rfl, ?_⟩
                  have vn : v ≠ .non := by
                    obtain ⟨a', _, q, _⟩ := rv.open
                    rw [q]
                    intro z
                    cases z
                  rw [decide_eq_false vn]
                  have a6 := a5.on s6
                  refine iteF ⟨_, rfl, .inl ⟨rfl, _, SqL.of a6.2.2⟩, _, rfl, R, _, _, rfl, rfl, a6.2.2, ?_, ?_⟩
                  · have : (1000 : Nat) < sizeLine := by decide
                    simp only [List.length_cons]
                    omega
                  · refine ⟨g - 1, by omega, vs ++ [v], acc ++ [sh], b, some v, rfl, ?_, ?_, ?_, by omega, by omega, ?_⟩
                    · exact a6.put
                    · exact ((r5.on s6).snoc rv).kp (.upd a6.2.2)
                    · rw [List.length_append, List.length_singleton]
                      omega
                    · rw [eL, show g - 1 + 1 = g by omega]
              all_goals
                rw [eL] at ks kn
                refine ⟨_, rfl, _, rfl, a, _, rfl, .inl (SqL.of e5), _, _, rfl, rfl, _, rfl, ?_⟩
                refine ite2 (fun c => ?_) (fun c => ?_)
                · have c2 := of_decide_eq_true c
                  rw [List.length_map] at c2
                  have c3 : j < ws.length := by omega
                  simp only [c3, if_true] at ks kn
                  refine ⟨_, rfl, R, _, rfl, .inl ⟨SqL.of a5.2.2, fun l nl => ?_⟩⟩
                  have s6 : Same H5 (upd H5 l (.tup (.str "op" :: .str x :: vs))) := grow nl
                  refine ⟨_, rfl, _, _, rfl, rfl, ?_⟩
                  refine two fun t H' s' e' => ?_
                  exact ks (.op x acc) (j + 1) rfl t (.ref l) H' ((s05.trans s6).trans s') e' (.op (s' _ _ upd_same) xl (r5.on (s6.trans s')))
                · have c2 : ¬ ((j : Int) < ((ws.map V.str).length : Nat)) := fun z => c (decide_eq_true z)
                  rw [List.length_map] at c2
                  have c3 : ¬ j < ws.length := by omega
                  simp only [c3, if_false] at ks kn
                  refine ⟨_, rfl, ?_⟩
                  refine two fun t H' s' e' => ?_
                  exact kn trivial t _ H' (s05.trans s') e' ⟨j, rfl⟩
            · rw [decide_eq_false d4]
              exact iteT ⟨_, rfl, nope s03 (fun z => d4 z.2)⟩
theorem ok_part {N m : Nat} {f fN : Addr} {fd fdN : FuncData} (F : Fun K "read_part" "read_part" tPart f fd) (T : Txt mg) (bF : Binds K fd ["signs", "at"] []) (gF : mg "read_part" = some (.ref f))
    (dN : Dn P w K mg base CX0 "is_name" ["value"] 1 (spV N m nameB) fN fdN) : ∀ n, FnOk P w K mg base CX0 (n + 1 + 1) f fd ["signs", "at"] (spPart (n + 1))
  | 0 => step_part F T bF gF dN (fnok_false (j := 1)) fun h => absurd rfl h
  | n + 1 => step_part F T bF gF dN (ok_part F T bF gF dN n) fun _ => rfl
end
end K19
/-! making an own error whose built-in base has its __new__ from a base of its own (KeyError: LookupError's) -/
namespace L2.My
open PySem PySem.Spec PyProof.Rows PySem.W PySem.Calls
open PySem.HandSPX (excO)
/-- what is asked of the classes above the own one -/
structure Above (B : String) (bm : List Value) : Prop where
  has : bm.contains (.type B) = true
  attr : bm.contains (.type "AttributeError") = false
  name : bm.contains (.type "NameError") = false
section
variable {M : Model} {A : Around} {E : Value → Shared → Prop} {hp : Heap} {gs : Array GenState} {dr : Drawn} {tk : Nat} {io : OsState}
variable {nm qn : Str} {C N : Addr} {bs bm bmB : List Value} {hd : Bool} {sn : List Str} {sub : List Value} {ab : Bool} {col : Option Bool} {dd : Option Addr} {k0 k1 k2 k3 k5 : Option Value} {B newId initId : String}
theorem newOk (F : ExcBaseFacts B newId initId bmB) (U : Above B bm) {rest : List Value} {Q : Unit → Shared → Prop}
    (there : hp.get? C = some (excClassObj nm qn C N bs bm hd sn sub ab col dd k0 k1 k2 k3 k5 newId)) (next : Q () ⟨hp, gs, dr, tk, io⟩) :
    wpAny M A (checkBuiltinCall newId ⟨.ref C :: rest, []⟩) Q E ⟨hp, gs, dr, tk, io⟩ := by
  have inB : (Value.ref C :: bm).contains (.type B) = true := by
    rw [List.contains_cons, U.has]
    exact Bool.or_true _
  have ns := F.noStar
  simp only [checkBuiltinCall, F.newKind, F.newSplit, F.newRow]
  repeat
    first
      | refine wpAny_loadPart_at there ?_
      | (refine wpAny_isSubtype_exc there ?_
         rw [inB])
      | refine wpAny_staticBase_exc there ?_
      | refine wpAny_madeBy_exc there ?_
      | simp only [bne_self_eq_false, Bool.false_eq_true, if_false]
      | wp_step
  exact next
end
section
variable {prog : Program} {w : World} {A : Around} {E : Value → Shared → Prop} {R : Result → Shared → Prop} {hp : Heap} {gs : Array GenState} {dr : Drawn} {tk : Nat} {io : OsState}
variable {nm qn : Str} {C N : Addr} {bs bm bmB : List Value} {hd : Bool} {sn : List Str} {sub : List Value} {ab : Bool} {col : Option Bool} {dd : Option Addr} {k0 k1 k2 k3 k5 : Option Value} {B newId initId : String}
theorem newMade (F : ExcBaseFacts B newId initId bmB) (U : Above B bm) {rest : List Value}
    (there : hp.get? C = some (excClassObj nm qn C N bs bm hd sn sub ab col dd k0 k1 k2 k3 k5 newId))
    (few : rest.length ≤ sizeLine) (next : R (.ok (.ret (.ref (hp.objs.size + 1)))) ⟨(hp.push (kdv_tup rest)).push (excO C hp.objs.size), gs, dr, tk, io⟩) :
    codeAny (model prog w) A (.builtin newId ⟨.ref C :: rest, []⟩) R ⟨hp, gs, dr, tk, io⟩ := by
  have fe := F.ends
  have inB : (Value.ref C :: bm).contains (.type B) = true := by
    rw [List.contains_cons, U.has]
    exact Bool.or_true _
  have inA : (Value.ref C :: bm).contains (.type "AttributeError") = false := by
    rw [List.contains_cons, U.attr]
    rfl
  have inN : (Value.ref C :: bm).contains (.type "NameError") = false := by
    rw [List.contains_cons, U.name]
    rfl
  apply PySem.codeAny_builtinAt F.entry
  unfold Builtin.«BaseException.__new__»
  apply PySem.wpAt_bind
  show PySem.wpAt _ _ _ (stack >>= _) _ _ _
  refine PySem.wpAt_bind (PySem.wpAt_stack fun _ _ => PySem.wpAt_of_wpAny ?_)
  wp_walk
  apply PySem.wpAt_of_wpAny
  rw [F.owner]
  repeat
    first
      | with_reducible refine wpAny_madeHere_exc F.canon there ?_
      | with_reducible refine wpAny_loadPart_at there ?_
      | (with_reducible refine wpAny_isSubtype_exc there ?_
         first
           | rw [inB]
           | rw [inA]
           | rw [inN])
      | wp_step
  show R _ _
  rw [Heap.size_push]
  exact next
theorem typeMade (F : ExcBaseFacts B newId initId bmB) (U : Above B bm) {rest : List Value} {fI : Addr} {Q : Fin → Shared → Prop}
    (there : hp.get? C = some (excClassObj nm qn C N bs bm hd sn sub ab col dd k0 k1 k2 k3 k5 newId))
    (hi : Looks (model prog w) hp (typeLookup (.ref C) "__init__") (some (.ref fI)))
    (hb : ∀ self, Looks (model prog w) hp (bindSpecial (.ref fI) self) (.ref fI, [self])) (few : rest.length ≤ sizeLine)
    (next : codeAny (model prog w) A (.call (.ref fI) ⟨.ref (hp.objs.size + 1) :: rest, []⟩)
      (fun r z => match r with
        | .ok (.ret v) => v = .none ∧ Q (.done (.ret (.ref (hp.objs.size + 1)))) z
        | .ok _ => False
        | .error e => E e z)
      ⟨(hp.push (kdv_tup rest)).push (excO C hp.objs.size), gs, dr, tk, io⟩) :
    wpAny (model prog w) A (Builtin.«type.__call__» ⟨.ref C :: rest, []⟩) Q E ⟨hp, gs, dr, tk, io⟩ := by
  repeat
    first
      | with_reducible refine wpAny_loadPart_at there ?_
      | with_reducible refine wpAny_madeBy_exc there ?_
      | wp_step
  apply codeAny_call_builtin_code (Code.quiet_builtin _ F.quiet) (newOk F U there _)
  refine newMade F U there few ?_
  show wpAny _ _ _ _ _ _
  have stay : ∀ b o, hp.get? b = some o → ((hp.push (kdv_tup rest)).push (excO C hp.objs.size)).get? b = some o := fun b o z =>
    Heap.get?_push_of_some _ (Heap.get?_push_of_some _ z)
  have there2 := stay _ _ there
  have new2 : ((hp.push (kdv_tup rest)).push (excO C hp.objs.size)).get? (hp.objs.size + 1) = some (excO C hp.objs.size) := by heap_get
  have inC : (Value.ref C :: bm).contains (.ref C) = true := by simp
  have i1 := hi.keeps stay
  have b1 := (hb (.ref (hp.objs.size + 1))).keeps stay
  unfold isInstance
  repeat
    first
      | with_reducible refine wpAny_loadPart_at new2 ?_
      | (with_reducible refine wpAny_isSubtype_exc there2 ?_
         rw [inC])
      | wp_step
  show wpAny _ _ (typeLookup (.ref C) _) _ _ _
  apply i1.at
  apply wpAny_holding
  apply wpAny_bind
  apply b1.at
  refine wpAny_bind (wpAny_call (codeAny_mono next fun r z q => ?_))
  rcases r with e | (v | _ | _ | _) <;> first
    | exact q
    | exact q.elim
    | skip
  obtain ⟨rfl, q⟩ := q
  wp_walk
  exact q
theorem callMade (F : ExcBaseFacts B newId initId bmB) (U : Above B bm) {rest : List Value} {fI : Addr}
    (there : hp.get? C = some (excClassObj nm qn C N bs bm hd sn sub ab col dd k0 k1 k2 k3 k5 newId))
    (hi : Looks (model prog w) hp (typeLookup (.ref C) "__init__") (some (.ref fI)))
    (hb : ∀ self, Looks (model prog w) hp (bindSpecial (.ref fI) self) (.ref fI, [self])) (few : rest.length ≤ sizeLine)
    (next : codeAny (model prog w) (A.under (.builtin "type.__call__" ⟨.ref C :: rest, []⟩)) (.call (.ref fI) ⟨.ref (hp.objs.size + 1) :: rest, []⟩) (InitBack (hp.objs.size + 1) R)
      ⟨(hp.push (kdv_tup rest)).push (excO C hp.objs.size), gs, dr, tk, io⟩) :
    codeAny (model prog w) A (.call (.ref C) ⟨rest, []⟩) R ⟨hp, gs, dr, tk, io⟩ := by
  have f1 := PySem.tc_lookup
  have f2 := PySem.tc_bind (.ref C)
  have ty : (⟨hp, gs, dr, tk, io⟩ : Shared).TypeIs (.ref C) "type" := ⟨_, there, rfl⟩
  apply codeAny_of_tree
  show wpAny _ _ (callAny (.ref C) _) _ _ _
  repeat
    any_goals
      first
        | assumption
        | with_reducible refine wpAny_loadPart_at there ?_
        | wp_step
  refine ⟨rfl, codeAny_call_builtin_at (Code.quiet_builtin _ (by decide +kernel)) PySem.entry_typeCall
    (PySem.wpAny_check_type_call_sub there (typeMade F U there hi hb few (codeAny_mono next fun r z q => ?_)))⟩
  rcases r with e | (v | _ | _ | _) <;> exact q
end
theorem keyStore : StoreFacts "KeyError" [.type "KeyError", .type "LookupError", .type "Exception", .type "BaseException", .type "object"]
    "object.__setattr__" "object" := by
  have e := PySem.F.entry_object_sa
  exact {
    mro := by kernel_rfl
    slot := .of (owner := "object") (n := "__setattr__")
      (by
        rw [typeLookup_type, builtinLookup_eq_fast]
        kernel_rfl)
      (by decide +kernel) (by decide +kernel) (by decide +kernel)
      (by
        first
          | exact .inl (by decide +kernel)
          | exact .inr (by decide +kernel))
      (by
        rw [isSubtype_type]
        kernel_rfl)
    entry := e
    kind := by decide +kernel
    split := by decide +kernel
    hasOwner := by decide +kernel
    args := fun a b c => by
      unfold argsOk
      kernel_rfl
    passes := fun self => by kernel_rfl }
theorem keyAbove : Above "LookupError" [.type "KeyError", .type "LookupError", .type "Exception", .type "BaseException", .type "object"] := ⟨by decide +kernel, by decide +kernel, by decide +kernel⟩
theorem Above.of {B newId initId : String} {bm : List Value} (F : ExcBaseFacts B newId initId bm) : Above B bm := ⟨F.hasB, F.noAttr, F.noName⟩
theorem Above.tail {B : String} {bmB bm : List Value} (U : Above B bmB) (t : excTail bmB bm = true) : Above B bm := by
  refine ⟨?_, ?_, ?_⟩
  · rw [excTail_contains B bm t]
    exact U.has
  · rw [excTail_contains "AttributeError" bm t]
    exact U.attr
  · rw [excTail_contains "NameError" bm t]
    exact U.name
end L2.My
/-! own exceptions that are held as values: isinstance, their fields -/
namespace L2.My
open PySem PySem.Spec PyProof.Rows L2
/-- at a: an exception of the class at C, its own dict at d -/
def Exv (C d a : Addr) : HO := .ext fun h => ∃ (oe : Obj) (vs : Array Value), h.get? a = some oe ∧ Zc (.ref C) (some d) oe ∧ oe.data = .fields vs
theorem exv_ok {P : Program} {w : World} {H : Hp} {h : Heap} {C d a : Addr} {oe : Obj} {vs : Array Value} (e : h.get? a = some oe) (z : Zc (.ref C) (some d) oe) (dt : oe.data = .fields vs) : ObjOk P w H h a (Exv C d a) :=
  ⟨⟨oe, vs, e, z, dt⟩, ⟨_, e⟩, fun _ _ ⟨o, us, e1, z1, d1⟩ k => ⟨o, us, k _ e1, z1, d1⟩⟩
/-- an exception of the class at C, as a value -/
def IsE (H : Hp) (C a : Addr) : Prop := H a = some (ExO (.ref C) a) ∨ ∃ d fs, H a = some (Exv C d a) ∧ H d = some (.xd fs)
theorem IsE.on {H H' : Hp} {C a : Addr} (s : Same H H') (h : IsE H C a) : IsE H' C a := by
  rcases h with h | ⟨d, fs, h, g⟩
  · exact .inl (s _ _ h)
  · exact .inr ⟨d, fs, s _ _ h, s _ _ g⟩
section
variable {X : Cx} {pins : List (Addr × Obj)} {σ : L2.St} {H : Hp} {s : Shared} {C a : Addr}
theorem exv_at (I : Inv X pins σ H s) {d : Addr} {fs : List (Str × V)} (h : H a = some (Exv C d a)) (g : H d = some (.xd fs)) : ∃ (oe od : Obj) (mA : Str → Option Value), PySem.W.InstAt s.heap a oe C (some od) ∧ (∀ n, PySem.W.lookIn n od = some (mA n)) ∧ ∀ f, RelO (fs.lookup f) (mA f) := by
  obtain ⟨⟨oe, vs, e, z, dt⟩, _⟩ := (show ObjOk X.prog X.w H s.heap a (Exv C d a) from I.hok a _ h)
  obtain ⟨mA, hns, hr⟩ := (show ObjOk X.prog X.w H s.heap d (.xd fs) from I.hok d _ g)
  obtain ⟨od, ho, hl⟩ := lookIn_ns hns
  exact ⟨oe, od, mA, ⟨e, z.1, by unfold PySem.W.notCls; rw [dt] <;> rfl, by rw [z.2]; exact ho⟩, hl, hr⟩
theorem exo_inst (I : Inv X pins σ H s) (h : H a = some (ExO (.ref C) a)) : ∃ oe, PySem.W.InstAt s.heap a oe C none := by
  obtain ⟨⟨oe, vs, e, z, dt, _⟩, _⟩ := (show ObjOk X.prog X.w H s.heap a (ExO (.ref C) a) from I.hok a _ h)
  exact ⟨oe, ⟨e, z.1, by unfold PySem.W.notCls; rw [dt] <;> rfl, by rw [z.2]; trivial⟩⟩
end
/-- isinstance(e, c), e such a value -/
def rIsX (K : PySem.W.Frag) : List V → Hp → VK → Prop := fun xs H Q => ∃ (a C : Addr) (c : V) (cv : Value) (b : Bool), xs = [.ref a, c] ∧ ClsV c cv ∧ ExcC K C ∧ PySem.W.kitOne K (.ref C) cv = some b ∧ IsE H C a ∧ Q (.bl b) H
theorem clsIn_of {K : PySem.W.Frag} {C : Addr} (h : PySem.W.hasDictIn K C = true) : (PySem.W.clsIn K C).isSome = true := by
  unfold PySem.W.hasDictIn at h
  cases q : PySem.W.clsIn K C with
  | none =>
    rw [q] at h
    cases h
  | some _ => rfl
theorem call_isX {X : Cx} : CallR X (.builtin "isinstance") (rIsX X.K) := by
  intro pins s σ H xs us Q I r h
  obtain ⟨a, C, c, cv, b, rfl, k, E, e, ie, q⟩ := h
  obtain ⟨u1, u2, rfl, r1, r2⟩ := vals2 r
  have e2 := k.eq r2
  subst e2
  cases (show u1 = Value.ref a from r1)
  rcases ie with ie | ⟨d, fs, ie, id⟩
  · obtain ⟨oe, J⟩ := exo_inst I ie
    exact PySem.W.kia_one (PySem.W.kitx_exc (clsIn_of E.hd) E.hg E.hk E.hs E.ha E.hn E.ht E.hm) I.kIn J e (fun z => nomatch z) fun tk => ⟨.bl b, H, I.tok tk, rfl, q⟩
  · obtain ⟨oe, od, mA, J, _⟩ := exv_at I ie id
    exact PySem.W.kia_one (PySem.W.kitx_exc (clsIn_of E.hd) E.hg E.hk E.hs E.ha E.hn E.ht E.hm) I.kIn J e (fun z => nomatch z) fun tk => ⟨.bl b, H, I.tok tk, rfl, q⟩
/-- err.f, err such a value -/
def tFld (C : Addr) (f : Str) (te : TE) : TE := fun σ H Q => te σ H fun x H1 => ∃ (a d : Addr) (fs : List (Str × V)) (v : V), x = .ref a ∧ H1 a = some (Exv C d a) ∧ H1 d = some (.xd fs) ∧ fs.lookup f = some v ∧ Q v H1
theorem pe_fldX {X : Cx} {C : Addr} {e : Expr} {te : TE} {pos : Pos} {n : Str} (T : ExcC X.K C) (hno : PySem.W.findIn X.K (.ref C) n = some none) (he : PE X e te) (hb : attributeBase e n X.env (eval e X.env) = eval e X.env := by rfl) :
    PE X (.Attribute e n pos) (tFld C n te) := by
  refine ⟨fun pins s σ H Q I h => attr_of hb (thn (he.run pins s σ H _ I h) fun u s1 hh => ?_)⟩
  obtain ⟨x, H1, I1, rx, a, d, fs, v, rfl, ea, ed, lk, q⟩ := hh
  obtain rfl : u = Value.ref a := rx
  obtain ⟨oe, od, mA, J, hl, hr⟩ := exv_at I1 ea ed
  obtain ⟨y, hy, ry⟩ := RelO.some_of (v := v) (o := mA n) (by
    rw [← lk]
    exact hr n)
  exact HandSPX.exc_get I1.kIn J T.hg T.hk T.hs (PySem.W.findObj_own T.hd hno rfl (by rw [hl, hy])) (handed_of ry) ⟨v, H1, I1.tok _, ry, q⟩
end L2.My
/-! an own error class over any of the eleven built-in bases, whose __init__(self, line) keeps it -/
namespace L2.My.Own_line
open PySem PySem.Spec PyProof.Rows PySem.W PySem.Calls L2 L2.My
def initArgs (p q : Pos) : Arguments :=
  { posonlyargs := [], args := [⟨"self", none, p⟩, ⟨"line", none, q⟩], vararg := none, kwonlyargs := [], kw_defaults := [], kwarg := none, defaults := [] }
def initBody (a b c d : Pos) : List Stmt := [.Assign [.Attribute (.Name "self" a) "line" b] (.Name "line" c) d]
def initScope : Scope :=
  { kind := .function, names := [(Str.ofString "self", .local), (Str.ofString "line", .local)], isGenerator := false, isCoroutine := false, more := [] }
/-- what the top's written part says of the class (at C, called nm in the module) and of its __init__ (at f) -/
structure ErrCls (K : Frag) (mg : Str → Option Value) (nm : Str) (qi : Str) (newId : String) (bmB : List Value) (C f : Addr) : Prop where
  gl : mg nm = some (.ref C)
  cl : ∃ n q N bs bm sn sub ab col dd k0 k1 k2 k3 k5, K.lookup C = some (excClassObj n q C N bs bm true sn sub ab col dd k0 k1 k2 k3 k5 newId) ∧ excTail bmB bm = true
  sa : findIn K (.ref C) "__setattr__" = some (some (.builtin "object.__setattr__"))
  ga : findIn K (.ref C) "__getattribute__" = some (some (.builtin "BaseException.__getattribute__"))
  gg : findIn K (.ref C) "__getattr__" = some none
  no : findIn K (.ref C) "line" = some none
  ini : findIn K (.ref C) "__init__" = some (some (.ref f))
  tf : typeIn K (.ref f) = some (.type "function")
  kp : keepIn K (.ref C) = true
  sub : subIn K (.ref C) (.type "BaseException") = some true
  ty : typeIn K (.ref C) = some (.type "type")
  hd : hasDictIn K C = true
  fn : ∃ (oc : Value) (od : Option Addr) (doc pm : Value) (an : Option Addr) (cd ct : Value) (sl : Array (Option Value)) (p q a b c d : Pos),
    K.lookup f = some ⟨oc, od, .func (fnOf "__init__" qi (initArgs p q) (initBody a b c d) initScope .none .none doc pm an cd ct), sl⟩ ∧ codeIn K cd qi = true
section
variable {prog : Program} {w : World} {A : Around} {E : Value → Shared → Prop} {R : Result → Shared → Prop} {s : Shared} {K : Frag} {mg : Str → Option Value}
variable {nm qi : Str} {B BN newId initId : String} {bmB bmN : List Value} {C f : Addr}
theorem ErrCls.cls (T : ErrCls K mg nm qi newId bmB C f) : ∃ cd bm, clsIn K C = some cd ∧ cd.mro = .ref C :: bm ∧ excTail bmB bm = true ∧ cd.hasDict = true := by
  obtain ⟨n, q, N, bs, bm, sn, sub, ab, col, dd, k0, k1, k2, k3, k5, h, t⟩ := T.cl
  refine ⟨{ name := n, bases := bs, mro := .ref C :: bm, ns := N, qualname := q, hasDict := true, slotNames := sn, subclasses := sub, abstract := ab, collection := col, hasDel := false }, bm, ?_, rfl, t, rfl⟩
  unfold clsIn
  rw [h] <;> rfl
theorem ErrCls.over (T : ErrCls K mg nm qi newId bmB C f) : excOver K C bmB = true := by
  obtain ⟨cd, bm, h, m, t, _⟩ := T.cls
  unfold excOver
  rw [h]
  simp [m, t]
theorem ErrCls.taker (T : ErrCls K mg nm qi newId bmB C f) : takerIn K C "line" = some none := by
  unfold takerIn
  rw [T.no]
  rfl
/-- the first field of a fresh exception at x -/
theorem first_field (SF : StoreFacts B bmB "object.__setattr__" "object") (T : ErrCls K mg nm qi newId bmB C f) {x t0 : Addr} {tk : Tok} {v : Value} (X : K.In s.heap) (hx : s.heap.get? x = some (HandSPX.excO C t0))
    (hq : ∀ h' tk' dx, (∀ b o, b ≠ x → s.heap.get? b = some o → h'.get? b = some o) → s.heap.objs.size ≤ dx → dx ≠ x →
      h'.get? x = some { cls := .ref C, dict := some dx, data := .fields #[.ref t0, .none, .none, .none, .bool false, .none] } →
      h'.Ns1 dx (fun y => if y = "line" then some v else none) → R (.ok (.ret .none)) { s with heap := h', toks := tk' }) :
    codeAny (model prog w) A (.call (.builtin "object.__setattr__") ⟨[.ref x, .str "line" tk, v], []⟩) R s := by
  obtain ⟨cd, bm, hcd, _, _, dic⟩ := T.cls
  have I : InstAt s.heap x (HandSPX.excO C t0) C none := ⟨hx, rfl, rfl, trivial⟩
  have far : x ≠ s.heap.objs.size := Nat.ne_of_lt (Heap.lt_size hx)
  refine osa_openX SF X I T.over T.taker fun b => ?_
  have Lc : Looks (model prog w) s.heap (classData C) cd := looks_clsIn X hcd
  obtain ⟨hp, g, d, t, os⟩ := s
  obtain ⟨n1, bs1, mro1, ns1, q1, hd1, sn1, sb1, ab1, co1, del1⟩ := cd
  dsimp only at dic
  subst dic
  dsimp only at hx far
  unfold Builtin.ObjectAttr.storeInOwnDict Builtin.ObjectAttr.ownDictForStores
  repeat (first | with_reducible refine HandSPX.store_in_new ?_ ?_ | with_reducible refine wpAny_loadPart_at hx ?_ | with_reducible refine Lc.at ?_ | wp_step)
  · exact ⟨_, #[], _, (Heap.get?_update_ne _ _ _ _ far.symm).trans (Heap.get?_push_at rfl rfl), rfl, fun e he => absurd he (by simp), fun _ => rfl⟩
  · intro h' tk' hn sb
    have hx1 : (hp.push { cls := .type "dict", data := .dict #[] }).get? x = some (HandSPX.excO C t0) := Heap.get?_push_of_some _ hx
    refine hq h' tk' hp.objs.size ?_ (Nat.le_refl _) far.symm ((sb.2 x far).trans (Heap.get?_update_self _ hx1 rfl)) hn
    intro b o nb e
    exact (sb.2 b (Nat.ne_of_lt (Heap.lt_size e))).trans ((Heap.get?_update_ne _ _ _ _ nb).trans (Heap.get?_push_of_some _ e))
theorem own_name {M : Model} {scope : Scope} {name x : Str} {L a : Addr} {cd v : Value} {m : Str → Option Value} {pos : Pos} {Q : Value → Shared → Prop}
    (hn : s.heap.Ns L m) (hv : m x = some v) (h : Q v s) (k1 : scope.kind = .function := by rfl) (k2 : (envOfC name scope L a cd).kindOf x = some .local := by rfl) (k3 : (x == ("__debug__" : Str)) = false := by decide) :
    wpAny M A (eval (.Name x pos) (envOfC name scope L a cd)) Q E s := wpAny_Name (wpAny_loadName_local k1 k2 hn hv h) k3
/-- what __init__ leaves of a fresh exception at x -/
structure Kept (h h' : Heap) (x C dx t : Addr) (v : Value) : Prop where
  old : ∀ b o, b ≠ x → h.get? b = some o → h'.get? b = some o
  me : h'.get? x = some { cls := .ref C, dict := some dx, data := .fields #[.ref t, .none, .none, .none, .bool false, .none] }
  far : h.objs.size ≤ dx
  ne : dx ≠ x
  ns : h'.Ns1 dx (fun y => if y = "line" then some v else none)
theorem ErrCls.init (SF : StoreFacts B bmB "object.__setattr__" "object") (T : ErrCls K mg nm qi newId bmB C f) {x t0 : Addr} {v : Value} (X : K.In s.heap) (lim : s.heap.NoLimit) (hx : s.heap.get? x = some (HandSPX.excO C t0))
    (room : A.depth < recursionLimit) (hq : ∀ h' tk dx, Kept s.heap h' x C dx t0 v → R (.ok (.ret .none)) { s with heap := h', toks := tk }) :
    codeAny (model prog w) A (.call (.ref f) ⟨[.ref x, v], []⟩) R s := by
  obtain ⟨oc, od, doc, pm, an, cd, ct, sl, p, q, a, b, c, d, lf, hcd⟩ := T.fn
  refine Att.call_fn (binds := [("self", .ref x), ("line", v)]) X lim lf hcd room (BindsTo.of_eq (by first | rfl | with_unfolding_all rfl)) (by first | rfl | decide | with_unfolding_all rfl) (fun s1 IC => ?_) rfl rfl rfl
  obtain ⟨h1, tk1, rfl⟩ := IC.toInCall.same
  have old : ∀ b o, s.heap.get? b = some o → h1.get? b = some o := IC.toInCall.keep
  have ns := IC.toInCall.ns
  have hx1 := old _ _ hx
  have X1 : K.In h1 := X.keeps old
  show wpAny _ _ (execs _ _) _ _ _
  refine wpAny_execs_cons (plainObj_wpAny_Assign_Attribute (own_name (v := v) ns (by first | rfl | with_unfolding_all rfl | kernel_rfl) (own_name (v := .ref x) ns (by first | rfl | with_unfolding_all rfl | kernel_rfl) ?_)))
  refine set_plain X1 (ox := HandSPX.excO C t0) (od := none) ⟨hx1, rfl, rfl, trivial⟩ T.sa (first_field SF T X1 hx1 fun h2 tk2 dx k2 far ne me n2 => ?_)
  show wpAny _ _ (execs _ _) _ _ _
  have more : s.heap.objs.size < h1.objs.size := ns.lt
  exact wpAny_execs_nil (hq h2 tk2 dx ⟨fun b o nb e => k2 b o nb (old b o e), me, Nat.le_of_lt (Nat.lt_of_lt_of_le more far), ne, n2⟩)
/-- a made error -/
structure Made (h h' : Heap) (e C d : Addr) (v : Value) : Prop where
  old : ∀ b o, h.get? b = some o → h'.get? b = some o
  new : h.objs.size ≤ e
  me : ∃ oe vs, h'.get? e = some oe ∧ oe.cls = .ref C ∧ oe.dict = some d ∧ oe.data = .fields vs ∧ vs[1]? = some .none
  far : h.objs.size ≤ d
  ne : d ≠ e
  ns : h'.Ns1 d (fun y => if y = "line" then some v else none)
theorem ErrCls.make (FB : ExcBaseFacts BN newId initId bmN) (UB : Above BN bmB) (SF : StoreFacts B bmB "object.__setattr__" "object") (T : ErrCls K mg nm qi newId bmB C f) {v : Value} (X : K.In s.heap) (lim : s.heap.NoLimit) (room : A.depth + 1 < recursionLimit)
    (hq : ∀ h' tk e d, Made s.heap h' e C d v → R (.ok (.ret (.ref e))) { s with heap := h', toks := tk }) :
    codeAny (model prog w) A (.call (.ref C) ⟨[v], []⟩) R s := by
  obtain ⟨n, q, N, bs, bm, sn, sub, ab, col, dd, k0, k1, k2, k3, k5, lc, tl⟩ := T.cl
  obtain ⟨hp, g, dr, tk, os⟩ := s
  obtain ⟨hp2, ehp2⟩ : ∃ h2, h2 = (hp.push (kdv_tup [v])).push (HandSPX.excO C hp.objs.size) := ⟨_, rfl⟩
  have old : ∀ b o, hp.get? b = some o → hp2.get? b = some o := fun b o e => by
    rw [ehp2]
    exact Heap.get?_push_of_some _ (Heap.get?_push_of_some _ e)
  have me : hp2.get? (hp.objs.size + 1) = some (HandSPX.excO C hp.objs.size) := by rw [ehp2]; heap_get
  have z2 : hp2.objs.size = hp.objs.size + 1 + 1 := by rw [ehp2, Heap.size_push, Heap.size_push]
  refine callMade FB (UB.tail tl) (X _ _ lc) (looks_findIn X T.ini) (fun self => bind_fn X self T.tf) (by rw [sizeLine_eq]; exact (by decide : 1 ≤ 16777216)) ?_
  rw [← ehp2]
  refine ErrCls.init (s := ⟨hp2, g, dr, tk, os⟩) SF T (X.keeps old) (lim.keeps old) me room fun h' tk' dx k => ?_
  have o2 : ∀ b o, hp.get? b = some o → h'.get? b = some o := fun b o e =>
    k.old b o (Nat.ne_of_lt (Nat.lt_succ_of_lt (Heap.lt_size e))) (old b o e)
  have far := k.far
  dsimp only at far
  rw [z2] at far
  exact ⟨rfl, hq h' tk' _ dx ⟨o2, Nat.le_succ _, ⟨_, _, k.me, rfl, rfl, rfl, rfl⟩, Nat.le_trans (Nat.le_trans (Nat.le_succ _) (Nat.le_succ _)) far, k.ne, k.ns⟩⟩
end
theorem rel_value {v : V} {u : Value} (r : RelV v u) (g : Str) : RelO (List.lookup g [(("line" : Str), v)]) (if g = "line" then some u else none) := by
  by_cases e : g = "line"
  · rw [if_pos e, e, show List.lookup ("line" : Str) [(("line" : Str), v)] = some v by simp [List.lookup]]
    exact r
  · have e2 : (g == ("line" : Str)) = false := by simpa using e
    rw [if_neg e, show List.lookup g [(("line" : Str), v)] = none by simp [List.lookup, e2]]
    trivial
section
variable {X : Cx} {nm qi : Str} {B BN newId initId : String} {bmB bmN : List Value} {C f : Addr}
/-- C(e) as what is raised: its own dict d is new and holds value -/
def tErr (C : Addr) (ta : TA) : L2.St → Hp → XK → Prop := fun σ H Q => ta σ H fun vs H1 => ∃ v, vs = [v] ∧ ∀ d, H1 d = none → Q (.ref C) (some d) (upd H1 d (.xd [(("line" : Str), v)]))
theorem pmk_err {a : Expr} {ta : TA} {p pos : Pos} {k : Nat} (FB : ExcBaseFacts BN newId initId bmN) (UB : Above BN bmB) (SF : StoreFacts B bmB "object.__setattr__" "object") (T : ErrCls X.K X.mg nm qi newId bmB C f) (hr : Room k X.A) (ha : PA X [a] ta) (hg : Gl X nm)
    (hdb : (nm == ("__debug__" : Str)) = false := by decide)
    (he : starEach (a :: []) X.env = (false, eval a X.env) :: starEach [] X.env := by rfl) (hpl : (backTo pos (starEach [] X.env)).any (·.1) = false := by rfl) :
    PMk X (.Call (.Name nm p) [a] [] pos) (tErr C ta) := by
  intro pins s σ H Q I h
  refine wpAny_Call_Name_kw (ld_glob I hg T.gl (callWith_K (h₀ := X.base) I.ok.mod.kin T.kp (thn (ha.run pos pins s σ H _ I h) fun us s1 hh => ?_) he hpl) hdb)
  obtain ⟨vs, H1, I1, r1, v, rfl, q1⟩ := hh
  refine ⟨I1.kIn, ?_⟩
  obtain ⟨u, rfl, rv⟩ : ∃ u, us = [u] ∧ RelV v u := by
    cases r1 with
    | cons ru rn =>
      cases rn
      exact ⟨_, rfl, ru⟩
  show wpAny _ _ (call (.ref C) [u]) _ _ _
  have lim := I1.nolimit
  obtain ⟨hp, g, dr, tk, os⟩ := s1
  refine wpAny_call (ErrCls.make FB UB SF T I1.kIn lim (by have := hr.dp; omega) fun h' tk' e d M => ?_)
  show MkP X pins σ Q (.ref e) ⟨h', g, dr, tk', os⟩
  obtain ⟨oe, fv, eo, ec, ed, dt, e1⟩ := M.me
  obtain ⟨G, g1, g2⟩ := restrict h' fun b => decide (b ≠ e)
  have same : ∀ b, b ≠ e → G.get? b = h'.get? b := fun b nb => g1 b (decide_eq_true nb)
  have gone : G.get? e = none := g2 e (by simp)
  have old : ∀ b o, hp.get? b = some o → G.get? b = some o := fun b o z =>
    (same b (Nat.ne_of_lt (Nat.lt_of_lt_of_le (Heap.lt_size z) M.new))).trans (M.old b o z)
  have fresh : H1 e = none := I1.hok.fresh M.new
  have there : ObjOk X.prog X.w (upd H1 d (.xd [(("line" : Str), v)])) G d (.xd [(("line" : Str), v)]) :=
    ⟨_, M.ns.at (fun o z => (same d M.ne).trans z), rel_value rv⟩
  have J : Inv X pins σ (upd H1 d (.xd [(("line" : Str), v)])) ⟨G, g, dr, tk', os⟩ := I1.laid (t' := tk') old M.far there
  refine ⟨e, oe, fv, ⟨G, g, dr, tk', os⟩, _, .ref C, some d, rfl, J, ?_, gone, eo, ⟨ec, ed⟩, dt, e1, ?_, rfl, I1.bare, raises_own T.sub T.ty, q1 d (I1.hok.fresh M.far)⟩
  · intro b o z
    have nb : b ≠ e := by
      rintro rfl
      have z' : G.get? b = some o := z
      rw [gone] at z'
      cases z'
    exact (same b nb).symm.trans z
  · rw [upd_ne (Ne.symm M.ne)]
    exact fresh
def tRaiseErr (C : Addr) (W : WX) (ta : TA) : TS := fun _ σ H => tErr C ta σ H fun c d H' => W c d σ H'
theorem ps_raiseErr {a : Expr} {ta : TA} {W : WX} {p pos pos2 : Pos} {k : Nat} (FB : ExcBaseFacts BN newId initId bmN) (UB : Above BN bmB) (SF : StoreFacts B bmB "object.__setattr__" "object") (hc : X.calm = true) (T : ErrCls X.K X.mg nm qi newId bmB C f) (hr : Room k X.A) (tk : Takes X W) (ha : PA X [a] ta) (hg : Gl X nm)
    (hdb : (nm == ("__debug__" : Str)) = false := by decide)
    (he : starEach (a :: []) X.env = (false, eval a X.env) :: starEach [] X.env := by rfl) (hpl : (backTo pos (starEach [] X.env)).any (·.1) = false := by rfl) :
    PS X (.Raise (some (.Call (.Name nm p) [a] [] pos)) none pos2) (tRaiseErr C W ta) := ps_raise hc tk (pmk_err FB UB SF T hr ha hg hdb he hpl)
/-- C(e) as a value -/
def tNew (C : Addr) (ta : TA) : TE := fun σ H Q => ta σ H fun vs H1 => ∃ v, vs = [v] ∧ ∀ d e, H1 d = none → H1 e = none → d ≠ e → Q (.ref e) (upd (upd H1 d (.xd [(("line" : Str), v)])) e (Exv C d e))
theorem pe_new {a : Expr} {ta : TA} {p pos : Pos} {k : Nat} (FB : ExcBaseFacts BN newId initId bmN) (UB : Above BN bmB) (SF : StoreFacts B bmB "object.__setattr__" "object") (T : ErrCls X.K X.mg nm qi newId bmB C f) (hr : Room k X.A) (ha : PA X [a] ta) (hg : Gl X nm)
    (hdb : (nm == ("__debug__" : Str)) = false := by decide)
    (he : starEach (a :: []) X.env = (false, eval a X.env) :: starEach [] X.env := by rfl) (hpl : (backTo pos (starEach [] X.env)).any (·.1) = false := by rfl) :
    PE X (.Call (.Name nm p) [a] [] pos) (tNew C ta) := by
  refine ⟨fun pins s σ H Q I h => ?_⟩
  refine wpAny_Call_Name_kw (ld_glob I hg T.gl (callWith_K (h₀ := X.base) I.ok.mod.kin T.kp (thn (ha.run pos pins s σ H _ I h) fun us s1 hh => ?_) he hpl) hdb)
  obtain ⟨vs, H1, I1, r1, v, rfl, q1⟩ := hh
  refine ⟨I1.kIn, ?_⟩
  obtain ⟨u, rfl, rv⟩ : ∃ u, us = [u] ∧ RelV v u := by
    cases r1 with
    | cons ru rn =>
      cases rn
      exact ⟨_, rfl, ru⟩
  show wpAny _ _ (call (.ref C) [u]) _ _ _
  have lim := I1.nolimit
  obtain ⟨hp, g, dr, tk, os⟩ := s1
  refine wpAny_call (ErrCls.make FB UB SF T I1.kIn lim (by have := hr.dp; omega) fun h' tk' e d M => ?_)
  obtain ⟨oe, fv, eo, ec, ed, dt, e1⟩ := M.me
  obtain ⟨G, g1, g2⟩ := restrict h' fun b => decide (b ≠ e)
  have same : ∀ b, b ≠ e → G.get? b = h'.get? b := fun b nb => g1 b (decide_eq_true nb)
  have gone : G.get? e = none := g2 e (by simp)
  have old : ∀ b o, hp.get? b = some o → G.get? b = some o := fun b o z =>
    (same b (Nat.ne_of_lt (Nat.lt_of_lt_of_le (Heap.lt_size z) M.new))).trans (M.old b o z)
  have fresh : H1 e = none := I1.hok.fresh M.new
  have there : ObjOk X.prog X.w (upd H1 d (.xd [(("line" : Str), v)])) G d (.xd [(("line" : Str), v)]) :=
    ⟨_, M.ns.at (fun o z => (same d M.ne).trans z), rel_value rv⟩
  have J : Inv X pins σ (upd H1 d (.xd [(("line" : Str), v)])) ⟨G, g, dr, tk', os⟩ := I1.laid (t' := tk') old M.far there
  have fe : (upd H1 d (.xd [(("line" : Str), v)])) e = none := by
    rw [upd_ne (Ne.symm M.ne)]
    exact fresh
  have k2 : ∀ b o, G.get? b = some o → h'.get? b = some o := fun b o z => by
    have nb : b ≠ e := by
      rintro rfl
      rw [gone] at z
      cases z
    exact (same b nb).symm.trans z
  exact ⟨.ref e, _, J.laidN (t' := tk') k2 gone fe (exv_ok eo ⟨ec, ed⟩ dt), rfl, q1 d e (I1.hok.fresh M.far) fresh M.ne⟩
/-- error.value in the suite of such an error -/
def tOfErr (C a : Addr) (cls : Value) (d : Option Addr) (te : TE) : TE := fun σ H Q => te σ H fun x H1 => x = .ref a ∧ cls = .ref C ∧ ∃ (dd : Addr) (v : V), d = some dd ∧ H1 dd = some (.xd [(("line" : Str), v)]) ∧ Q v H1
theorem pe_ofErr {a : Addr} {oe : Obj} {cls : Value} {d : Option Addr} {pn : List (Addr × Obj)} {e : Expr} {te : TE} {pos : Pos} (T : ErrCls X.K X.mg nm qi newId bmB C f) (hz : Zc cls d oe) (hf : ∃ vs, oe.data = .fields vs) (he : PE (X.suite a ((a, oe) :: pn)) e te)
    (hb : attributeBase e "line" X.env (eval e X.env) = eval e X.env := by rfl) :
    PE (X.suite a ((a, oe) :: pn)) (.Attribute e "line" pos) (tOfErr C a cls d te) := by
  refine ⟨fun pins s σ H Q I h => attr_of hb (thn (he.run pins s σ H _ I h) fun u s1 hh => ?_)⟩
  obtain ⟨x, H1, I1, rx, rfl, rfl, dd, v, rfl, ea, q⟩ := hh
  obtain rfl : u = Value.ref a := rx
  obtain ⟨vs, dt⟩ := hf
  obtain ⟨at_, _⟩ := I1.pin (a, oe) (List.mem_append_left _ List.mem_cons_self)
  obtain ⟨mA, hns, hr⟩ := (show ObjOk X.prog X.w H1 s1.heap dd (.xd [(("line" : Str), v)]) from I1.hok dd _ ea)
  obtain ⟨od, ho, hl⟩ := lookIn_ns hns
  obtain ⟨u, hu, ru⟩ := RelO.some_of (v := v) (o := mA "line") (by
    rw [← (show List.lookup ("line" : Str) [(("line" : Str), v)] = some v by simp [List.lookup])]
    exact hr "line")
  have J : InstAt s1.heap a oe C (some od) := ⟨at_, hz.1, by unfold notCls; rw [dt] <;> rfl, by rw [hz.2]; exact ho⟩
  exact HandSPX.exc_get I1.kIn J T.ga T.gg T.sub (findObj_own T.hd T.no rfl (by rw [hl, hu])) (handed_of ru) ⟨v, H1, I1.tok _, ru, q⟩
end
end L2.My.Own_line
namespace K19
open PySem L2
open L2.My
theorem join_mem {sep : Str} : ∀ {ys : List Str} {x : Str}, x ∈ ys → x.length ≤ (Str.join sep ys).length ∧ (PyData.strOk (Str.join sep ys) = true → PyData.strOk x = true)
  | [y], x, h => by
    rw [List.mem_singleton.mp h]
    exact ⟨Nat.le_refl _, id⟩
  | y :: z :: r, x, h => by
    have e : Str.join sep (y :: z :: r) = y ++ sep ++ Str.join sep (z :: r) := rfl
    rw [e]
    have ok : PyData.strOk (y ++ sep ++ Str.join sep (z :: r)) = (PyData.strOk y && PyData.strOk sep && PyData.strOk (Str.join sep (z :: r))) := by
      show Array.all (y.cps ++ sep.cps ++ (Str.join sep (z :: r)).cps) _ = _
      rw [Array.all_append, Array.all_append]
      rfl
    rw [Str.length_append, Str.length_append]
    rcases List.mem_cons.mp h with rfl | h
    · refine ⟨by omega, fun q => ?_⟩
      rw [ok, Bool.and_eq_true, Bool.and_eq_true] at q
      exact q.1.1
    · obtain ⟨l, k⟩ := join_mem (sep := sep) h
      refine ⟨by omega, fun q => ?_⟩
      rw [ok, Bool.and_eq_true, Bool.and_eq_true] at q
      exact k q.2
structure TextOk (z : Str) : Prop where
  ok : PyData.strOk z = true
  len : z.length ≤ 90
theorem TextOk.words {z : Str} (t : TextOk z) : Words (Txt.split z " ") := by
  have e : Str.join " " (Txt.split z " ") = z := by
    have := join_split z
    rw [show Txt.join " " (Txt.split z " ") = Str.join " " (Txt.split z " ") from StrLaws.glued_eq_join _ _] at this
    exact this
  refine ⟨?_, fun x hx => ?_, fun x hx => ?_⟩
  · have h1 := PyProof.Rows.split_le z " "
    have := t.len
    omega
  · have := (join_mem (sep := " ") hx).2
    rw [e] at this
    exact this t.ok
  · have := (join_mem (sep := " ") hx).1
    rw [e] at this
    have := t.len
    omega
mutual
theorem sz_signs : ∀ s : Sh, s.sz ≤ s.signs.length
  | .hole => by simp [Sh.signs, Sh.sz]
  | .load => by simp [Sh.signs, Sh.sz]
  | .store s => by
    have := sz_signs s
    simp only [Sh.signs, Sh.sz, List.length_cons]
    omega
  | .op z ps => by
    have := szs_signs ps
    simp only [Sh.signs, Sh.sz, List.length_cons, List.length_append, List.length_nil]
    omega
theorem szs_signs : ∀ ps : List Sh, szs ps ≤ (signsL ps).length
  | [] => by simp [signsL, szs]
  | s :: r => by
    have := sz_signs s
    have := szs_signs r
    simp only [signsL, szs, List.length_append]
    omega
end
theorem cut_head {ws : List Str} : cutV (ws.map V.str) none (some 1) = (oneAt ws 0).map V.str := by
  have h := cut_one (ws := ws) (i := 0)
  have e : HT.sIx (ws.map V.str).length 0 none = 0 := by rw [HT.sIx_none]
  have e2 : HT.sIx (ws.map V.str).length 0 (some ((0 : Nat) : Int)) = 0 := by rw [HT.sIx_nat]; exact Nat.zero_min _
  unfold cutV at h ⊢
  rw [e]
  rw [e2] at h
  exact h
/-- ParseError is raised with None -/
def RaP (E : XK) (H : Hp) (CP : Addr) : Prop := ∀ H' d, Same H H' → H' d = none → E (.ref CP) (some d) (upd H' d (.xd [(("line" : Str), .non)]))
abbrev ParC (K : PySem.W.Frag) (mg : Str → Option Value) (CP fP : Addr) : Prop := Own_line.ErrCls K mg "ParseError" "ParseError.__init__" "ValueError.__new__" mroV CP fP
theorem upV : Above "ValueError" mroV := .of PySem.F.excBase_ValueError
section
variable {P : Program} {w : World} {K : PySem.W.Frag} {mg : Str → Option Value} {base : Heap}
/-! ### shape_of -/
def spShapeOf : Sp := fun vs H Q _ => ∃ a ws, vs = [.ref a] ∧ H a = some (.lst (ws.map V.str)) ∧ Words ws ∧ (shapeOf ws = none → ∀ H', Same H H' → Q .non H') ∧ (∀ s, shapeOf ws = some s → ∀ v H', Same H H' → RSh H' v s → Q v H')
theorem scShapeOf : FnScope ["signs", "is_stored", "shape", "behind", "whole"] ["signs"] (defScope tShapeOf) := ⟨rfl, rfl, rfl, by decide +kernel, rfl, by decide +kernel, by decide +kernel⟩
theorem ok_shapeof {k : Nat} {f fP fS : Addr} {fd fdP fdS : FuncData} (F : Fun K "shape_of" "shape_of" tShapeOf f fd) (T : Txt mg) (hM : ∃ t, mg "MAX_SIGNS" = some (.int 21 t))
    (dP : Dn P w K mg base CX0 "read_part" ["signs", "at"] k (spPart 22) fP fdP) (dS : Dn P w K mg base CX0 "is_shape" ["value"] k (spB 40 30 shapeB) fS fdS) :
    FnOk P w K mg base CX0 (k + 1) f fd ["signs"] spShapeOf := by
  obtain ⟨tM, lM⟩ := hM
  refine F.ok scShapeOf (fun vs H Q E h => ?_) (fun cdv A outer s H vs Q E hr h => ?_)
  · obtain ⟨a, ws, rfl, _⟩ := h
    rfl
  · obtain ⟨a, ws, rfl, ea, W, kn, ks⟩ := h
    have hu : (A.deeper (PyProof.Rows.envOfC "shape_of" (defScope tShapeOf) s.heap.objs.size f cdv)).units + 64 < cLine := by
      have := hr.un
      omega
    refine ⟨_, pss_cons (ps_if (pt_cmpR op_gt (pe_callB call_len_seq (by rfl) T.len PySem.boot_len (pa_cons (pv 0) pa_nil)) (pe_glob (v := .int 21) rfl lM ⟨_, rfl⟩) (nomark _)) (pss_one (ps_ret pe_non)) pss_nil)
      (pss_cons (ps_set (i := 1) scShapeOf.nd rfl (.inl rfl) (pe_cmpR (op_eqD hu) (pe_slice sl_list (pv 0) po_none (po_some pe_int)) (pe_lst (pa_cons pe_str pa_nil)) (nomark _)))
      (pss_cons (ps_asg (pe_call dP.G hr rfl dP.g dP.kp dP.b .nil pass0 (pa_cons (pv 0) (pa_cons (pe_ifExp (pt_val (pv 1)) pe_int pe_int) pa_nil))) (pg_tup rfl (pgs_cons (pg_name (i := 2) scShapeOf.nd rfl (.inl rfl)) (pgs_cons (pg_name (i := 3) scShapeOf.nd rfl (.inl rfl)) pgs_nil))))
      (pss_cons (ps_if (PW.pt (pw_or (pt_cmpR op_isN (pv 2) pe_non (nomark _)) (pw_or1 (pt_cmpR op_ne (pv 3) (pe_callB call_len_seq (by rfl) T.len PySem.boot_len (pa_cons (pv 0) pa_nil)) (nomark _))))) (pss_one (ps_ret pe_non)) pss_nil)
      (pss_cons (ps_set (i := 4) scShapeOf.nd rfl (.inl rfl) (pe_ifExp (pt_val (pv 1)) (pe_tup (pa_cons pe_str (pa_cons (pv 2) pa_nil))) (pv 2)))
      (pss_one (ps_ret (pe_ifExp (pt_val (pe_call dS.G hr rfl dS.g dS.kp dS.b .nil pass0 (pa_cons (pv 4) pa_nil))) (pv 4) pe_non))))))), ?_⟩
    refine ⟨_, rfl, a, _, rfl, .inl (SqL.of ea), _, _, rfl, rfl, _, rfl, ?_⟩
    have W1 := W.len
    refine ite2 (fun c => ?_) (fun c => ?_)
    · have c2 := of_decide_eq_true c
      rw [List.length_map] at c2
      refine kn ?_ H (Same.refl H)
      unfold shapeOf
      rw [if_pos (by omega)]
    · have c2 : ¬ ((21 : Int) < ((ws.map V.str).length : Nat)) := fun z => c (decide_eq_true z)
      rw [List.length_map] at c2
      have eS : shapeOf ws = wholeOf ws (part 22 ws (if ws[0]? = some ("=" : Str) then 1 else 0)) := by
        unfold shapeOf
        rw [if_neg (by omega)]
      rw [eS] at kn ks
      refine ⟨_, rfl, _, rfl, a, _, rfl, SqL.of ea, fun p np => ?_⟩
      rw [cut_head]
      have s1 := grow (o := .lst ((oneAt ws 0).map V.str)) np
      have e1 : (upd H p (.lst ((oneAt ws 0).map V.str))) p = some (.lst ((oneAt ws 0).map V.str)) := upd_same
      revert s1 e1
      generalize upd H p (.lst ((oneAt ws 0).map V.str)) = H1
      intro s1 e1
      refine ⟨(by show 1 ≤ sizeLine; decide), fun p2 np2 => ?_⟩
      have s2 := grow (o := .lst [.str "="]) np2
      have e2 : (upd H1 p2 (.lst [.str "="])) p2 = some (.lst [.str "="]) := upd_same
      revert s2 e2
      generalize upd H1 p2 (.lst [.str "="]) = H2
      intro s2 e2
      have s02 := s1.trans s2
      refine ⟨_, _, .lst (SqL.of (s2 _ _ e1)) (dp_strs _), .lst (SqL.of e2) (.cons (.str _) .nil), one_shaped W _, by decide +kernel, ?_⟩
      rw [one_eqv]
      have e02 := s02 _ _ ea
      refine ⟨_, rfl, _, rfl, _, rfl, ?_⟩
      obtain ⟨sto, hs⟩ : ∃ sto, decide (ws[0]? = some ("=" : Str)) = sto := ⟨_, rfl⟩
      rw [hs]
      obtain ⟨i0, hi0⟩ : ∃ i0 : Nat, i0 = if ws[0]? = some ("=" : Str) then 1 else 0 := ⟨_, rfl⟩
      rw [← hi0] at kn ks
      cases sto
      case' true =>
        have z : i0 = 1 := by rw [hi0, if_pos (of_decide_eq_true hs)]
        refine iteT ?_
        rw [show (V.int 1 : V) = V.int ((i0 : Nat) : Int) by rw [z]; rfl]
      case' false =>
        have z : i0 = 0 := by rw [hi0, if_neg (of_decide_eq_false hs)]
        refine iteF ?_
        rw [show (V.int 0 : V) = V.int ((i0 : Nat) : Int) by rw [z]; rfl]
      all_goals
        refine ⟨a, ws, i0, rfl, e02, W, by omega, by omega, fun en t y H3 s3 e3 jn => ?_, fun sh b en t v H3 s3 e3 rv => ?_⟩
        · obtain ⟨j, rfl⟩ := jn
          rw [en] at kn
          refine ⟨t, _, rfl, SqT.of e3, rfl, _, _, rfl, _, _, rfl, rfl, ?_⟩
          refine ⟨_, rfl, rfl, _, rfl, ?_⟩
          exact iteT (iteT (kn rfl _ (s02.trans s3)))
        · rw [en] at kn ks
          obtain ⟨b1, b2, b3⟩ := part_reads 22 ws i0 sh b en
          have szb : sh.sz ≤ 21 := by
            have h1 := sz_signs sh
            have h2 := congrArg List.length b3
            rw [List.length_append, List.length_drop] at h2
            omega
          have s03 := s02.trans s3
          refine ⟨t, _, rfl, SqT.of e3, rfl, _, _, rfl, _, _, rfl, rfl, ?_⟩
          refine ⟨_, rfl, rfl, _, rfl, ?_⟩
          have vn : v ≠ .non := by
            obtain ⟨a', _, q, _⟩ := rv.open
            rw [q]
            intro z
            cases z
          rw [decide_eq_false vn]
          refine iteF ⟨_, rfl, _, rfl, a, _, rfl, .inl (SqL.of (s03 _ _ ea)), rfl, _, rfl, ?_⟩
          by_cases cb : b = ws.length
          · have eb : (!decide (V.int ((b : Nat) : Int) = V.int (((ws.map V.str).length : Nat) : Int))) = false := by
              rw [List.length_map, cb]
              simp
            rw [eb]
            refine iteF ?_
            simp only [wholeOf] at kn ks
            rw [if_pos cb] at kn ks
            have tell : ∀ (wh : Sh) (u : V) (H4 : Hp), Same H H4 → RSh H4 u wh → wh.sz ≤ 22 → (if ws[0]? = some ("=" : Str) then Sh.store sh else sh) = wh →
                ∃ x, [u] = [x] ∧ Tv H4 40 30 x ∧ ∀ H', Same H4 H' → ∃ k, V.bl (shapeB H4 x) = .bl k ∧ (if k = true then Q u H' else Q .non H') := fun wh u H4 s4 ru zu ew => by
              have tu : Tv H4 40 30 u := ru.tv (n := 30) (by omega) (by decide)
              refine ⟨u, rfl, tu, fun H' s' => ⟨_, rfl, ?_⟩⟩
              rw [ru.shapeB tu]
              rw [ew] at kn ks
              cases co : wh.ok with
              | true =>
                rw [co] at ks
                exact iteT (ks wh rfl u H' (s4.trans s') (ru.on s'))
              | false =>
                rw [co] at kn
                exact iteF (kn rfl H' (s4.trans s'))
            refine ⟨_, rfl, _, rfl, ?_⟩
            first
            | refine iteT ⟨_, rfl, (by show 2 ≤ sizeLine; decide), fun t2 n2 => ?_⟩
              have s4 := grow (o := .tup [.str "store", v]) n2
              have e4 : (upd H3 t2 (.tup [.str "store", v])) t2 = some (.tup [.str "store", v]) := upd_same
              revert s4 e4
              generalize upd H3 t2 (.tup [.str "store", v]) = H4
              intro s4 e4
              refine ⟨_, rfl, ?_⟩
              obtain ⟨x, q1, q2, q3⟩ := tell (.store sh) (.ref t2) H4 (s03.trans s4) (.store e4 (rv.on s4)) (by simp only [Sh.sz]; omega) (if_pos (of_decide_eq_true hs))
              refine ⟨x, q1, q2, fun H' s' => ?_⟩
              obtain ⟨k', k1, k2⟩ := q3 H' s'
              refine ⟨k', k1, ?_⟩
              cases k' with
              | true => exact iteT ⟨_, rfl, k2⟩
              | false => exact iteF k2
            | refine iteF ⟨_, rfl, ?_⟩
              refine ⟨_, rfl, ?_⟩
              obtain ⟨x, q1, q2, q3⟩ := tell sh v H3 s03 rv (by omega) (if_neg (of_decide_eq_false hs))
              refine ⟨x, q1, q2, fun H' s' => ?_⟩
              obtain ⟨k', k1, k2⟩ := q3 H' s'
              refine ⟨k', k1, ?_⟩
              cases k' with
              | true => exact iteT ⟨_, rfl, k2⟩
              | false => exact iteF k2
          · have eb : (!decide (V.int ((b : Nat) : Int) = V.int (((ws.map V.str).length : Nat) : Int))) = true := by
              rw [List.length_map, decide_eq_false]
              · rfl
              · intro z
                have := V.int.inj z
                omega
            rw [eb]
            simp only [wholeOf] at kn
            rw [if_neg cb] at kn
            exact iteT (kn rfl _ s03)
/-! ### read_shape -/
def spRead (N m : Nat) (CP : Addr) : Sp := fun vs H Q E => ∃ x, vs = [x] ∧ Tv H N m x ∧ (∀ z, x = .str z → TextOk z) ∧ ((∀ z, x = .str z → readT z = none) → RaP E H CP) ∧
  (∀ z s, x = .str z → readT z = some s → ∀ v H', Same H H' → RSh H' v s → Q v H')
theorem scRead : FnScope ["text", "shape"] ["text"] (defScope tRead) := ⟨rfl, rfl, rfl, by decide +kernel, rfl, by decide +kernel, by decide +kernel⟩
theorem ok_read {N m k : Nat} {CP f fO fP : Addr} {fd fdO : FuncData} (F : Fun K "read_shape" "read_shape" tRead f fd) (T : Txt mg) (R : ParC K mg CP fP) (dO : Dn P w K mg base CX0 "shape_of" ["signs"] (k + 1) spShapeOf fO fdO) :
    FnOk P w K mg base (L2.CX P w) (k + 1 + 1) f fd ["text"] (spRead N m CP) := by
  refine F.okX scRead (fun vs H Q E h => ?_) (fun cdv A outer s H vs Q E hr h => ?_)
  · obtain ⟨x, rfl, _⟩ := h
    rfl
  · obtain ⟨x, rfl, tx, tok, kn, ks⟩ := h
    have hr1 : Room 1 _ := hr.mono (by omega)
    refine ⟨_, pss_cons (ps_set (i := 1) scRead.nd rfl (.inl rfl) (pe_ifExp (pt_val (pe_callB call_isi (by rfl) T.isi (by decide +kernel) (pa_cons (pv 0) (pa_cons (pe_bltn (v := .ty "str") (by rfl) T.str (by decide +kernel) rfl) pa_nil))))
        (pe_call dO.G hr rfl dO.g dO.kp dO.b .nil pass0 (pa_cons (pe_split (pv 0) pe_str) pa_nil)) pe_non))
      (pss_cons (ps_if (pt_cmpR op_isN (pv 1) pe_non (nomark _)) (pss_one (Own_line.ps_raiseErr PySem.F.excBase_ValueError upV PySem.F.store_ValueError rfl R hr1 (takes_of rfl rfl rfl rfl) (pa_cons pe_non pa_nil) rfl)) pss_nil)
      (pss_one (ps_ret (pv 1)))), ?_⟩
    obtain ⟨z, hz, ty, q1, _⟩ := tx.ty (K := K)
    by_cases c : z = "str"
    · obtain ⟨y, rfl⟩ := q1.mp c
      have ok := tok y rfl
      have Wz := ok.words
      refine ⟨_, rfl, _, _, _, _, _, rfl, ClsV.ty _, .base (.str y), kit_ty (r := true) (by decide +kernel), _, rfl, iteT ?_⟩
      refine ⟨_, rfl, ⟨_, rfl⟩, y, _, rfl, rfl, by decide +kernel, ?_, fun p np => ?_⟩
      · have := ok.len
        have : (1000 : Nat) ≤ sizeLine := by decide
        omega
      · have s1 := grow (o := .lst ((Txt.split y " ").map V.str)) np
        refine ⟨p, _, rfl, upd_same, Wz, fun en H' s' => ?_, fun sh en v H' s' rv => ?_⟩
        · refine ⟨_, rfl, rfl, _, rfl, ?_⟩
          refine iteT ?_
          exact ⟨_, rfl, fun d hd => kn (fun z' e => by cases e; exact en) H' d (s1.trans s') hd⟩
        · have vn : v ≠ .non := by
            obtain ⟨a', _, q, _⟩ := rv.open
            rw [q]
            intro z
            cases z
          refine ⟨_, rfl, rfl, _, rfl, ?_⟩
          rw [decide_eq_false vn]
          exact iteF ⟨_, rfl, ks y sh rfl en v H' (s1.trans s') rv⟩
    · have nb : ∀ y, x ≠ .str y := fun y e => c (q1.mpr ⟨y, e⟩)
      refine ⟨_, rfl, _, _, _, _, _, rfl, ClsV.ty _, ty, kit_ty (r := false) (by
        simp only [List.mem_cons, List.not_mem_nil, or_false] at hz
        rcases hz with rfl | rfl | rfl | rfl | rfl | rfl | rfl <;> first | exact absurd rfl c | decide +kernel), _, rfl, iteF ?_⟩
      refine ⟨_, rfl, rfl, _, rfl, ?_⟩
      refine iteT ?_
      exact ⟨_, rfl, fun d hd => kn (fun z' e => absurd e (nb z')) H d (Same.refl H) hd⟩
end
end K19
namespace K19
open PySem L2
open L2.My
section
variable {P : Program} {w : World} {K : PySem.W.Frag} {mg : Str → Option Value} {base : Heap}
/-! ### _law_tree -/
def spGrow (n : Nat) : Sp := fun vs H Q _ => ∃ p q : Addr, vs = [.ref p, .int (n : Nat), .ref q] ∧ Urn H p ∧ H q = some (.lst [.str "p"]) ∧ q ≠ p ∧ ∀ v t H', RTr H' v t → t.good n = true → Urn H' p → But p H H' → Q v H'
theorem scGrow : FnScope ["_law_urn_here", "_law_level", "_law_sets", "_law_way"] ["_law_urn_here", "_law_level", "_law_sets"] (defScope tGrow) := ⟨rfl, rfl, rfl, by decide +kernel, rfl, by decide +kernel, by decide +kernel⟩
theorem step_grow {n : Nat} {spR : Sp} {f fT fP : Addr} {fd fdT fdP : FuncData} (F : Fun K "_law_tree" "_law_tree" tGrow f fd) (bF : Binds K fd ["_law_urn_here", "_law_level", "_law_sets"] []) (gF : mg "_law_tree" = some (.ref f))
    (dT : Dn P w K mg base CX0 "_law_pull" ["_law_urn_here", "_law_total"] 1 spPull fT fdT) (dP : Dn P w K mg base CX0 "_law_one" ["_law_urn_here", "_law_items"] 2 spOne fP fdP)
    (GR : FnOk P w K mg base CX0 (2 + n) f fd ["_law_urn_here", "_law_level", "_law_sets"] spR) (hR : n ≠ 0 → spR = spGrow n) :
    FnOk P w K mg base CX0 (2 + n + 1) f fd ["_law_urn_here", "_law_level", "_law_sets"] (spGrow (n + 1)) := by
  refine F.ok scGrow (fun vs H Q E h => ?_) (fun cdv A outer s H vs Q E hr h => ?_)
  · obtain ⟨p, q, rfl, _⟩ := h
    rfl
  · obtain ⟨p, q, rfl, lo, eq, qp, k⟩ := h
    have hr1 : Room 1 _ := hr.mono (by omega)
    have hr2 : Room 2 _ := hr.mono (by omega)
    have hu : (A.deeper (PyProof.Rows.envOfC "_law_tree" (defScope tGrow) s.heap.objs.size f cdv)).units + 64 < cLine := by
      have := hr.un
      omega
    refine ⟨_, pss_cons (ps_set (i := 3) scGrow.nd rfl (.inl rfl) (pe_ifExp (pt_cmpR op_gt (pv 1) pe_int (nomark _)) (pe_call dT.G hr1 rfl dT.g dT.kp dT.b .nil pass0 (pa_cons (pv 0) (pa_cons pe_int pa_nil))) (pe_op op_add pe_int (pe_call dT.G hr1 rfl dT.g dT.kp dT.b .nil pass0 (pa_cons (pv 0) (pa_cons pe_int pa_nil))))))
      (pss_cons (ps_if (pt_cmpR op_eq (pv 3) pe_int (nomark _)) (pss_one (ps_ret (pe_tup (pa_cons pe_str (pa_cons pe_str (pa_cons (pe_call GR hr rfl gF F.kp bF .nil pass0 (pa_cons (pv 0) (pa_cons (pe_op op_sub (pv 1) pe_int) (pa_cons (pv 2) pa_nil)))) pa_nil)))))) pss_nil)
      (pss_cons (ps_if (pt_cmpR op_eq (pv 3) pe_int (nomark _)) (pss_one (ps_ret (pe_tup (pa_cons pe_str (pa_cons pe_str pa_nil))))) pss_nil)
      (pss_cons (ps_if (pt_cmpR op_lt (pv 3) pe_int (nomark _)) (pss_one (ps_ret (pe_tup (pa_cons pe_str (pa_cons (pe_call dP.G hr2 rfl dP.g dP.kp dP.b .nil pass0 (pa_cons (pv 0) (pa_cons (pe_lst (pa_cons pe_str (pa_cons pe_str pa_nil))) pa_nil)))
          (pa_cons (pe_call GR hr rfl gF F.kp bF .nil pass0 (pa_cons (pv 0) (pa_cons (pe_op op_sub (pv 1) pe_int) (pa_cons (pv 2) pa_nil)))) (pa_cons (pe_call GR hr rfl gF F.kp bF .nil pass0 (pa_cons (pv 0) (pa_cons (pe_op op_sub (pv 1) pe_int) (pa_cons (pv 2) pa_nil)))) pa_nil))))))) pss_nil)
      (pss_cons (ps_if (PW.pt (pw_and (pt_cmpR op_eq (pv 3) pe_int (nomark _)) (pw_and1 (pt_cmpR (op_neD hu) (pv 2) (pe_lst pa_nil) (nomark _))))) (pss_one (ps_ret (pe_tup (pa_cons pe_str (pa_cons (pe_call dP.G hr2 rfl dP.g dP.kp dP.b .nil pass0 (pa_cons (pv 0) (pa_cons (pv 2) pa_nil))) (pa_cons (pe_op op_add pe_int (pe_call dT.G hr1 rfl dT.g dT.kp dT.b .nil pass0 (pa_cons (pv 0) (pa_cons pe_int pa_nil)))) pa_nil)))))) pss_nil)
      (pss_one (ps_ret (pe_tup (pa_cons pe_str (pa_cons (pe_call dP.G hr2 rfl dP.g dP.kp dP.b .nil pass0 (pa_cons (pv 0) (pa_cons (pe_lst (pa_cons pe_str (pa_cons pe_str pa_nil))) pa_nil)))
        (pa_cons (pe_op op_sub (pe_call dT.G hr1 rfl dT.g dT.kp dT.b .nil pass0 (pa_cons (pv 0) (pa_cons pe_int pa_nil))) pe_int) (pa_cons (pe_op op_sub (pe_call dT.G hr1 rfl dT.g dT.kp dT.b .nil pass0 (pa_cons (pv 0) (pa_cons pe_int pa_nil))) pe_int) pa_nil))))))))))), ?_⟩
    have lp : ∀ n : Nat, n ≤ 10 → n ≤ sizeLine := fun n h => Nat.le_trans h (by decide)
    -- the way
    refine ⟨_, rfl, _, _, rfl, rfl, _, rfl, ite2 (fun c => ?_) (fun c => ?_)⟩
    case' refine_1 =>
      have n1 : n ≠ 0 := by
        have := of_decide_eq_true c
        omega
      refine ⟨_, rfl, p, 7, rfl, by decide, by decide, lo, fun r H1 r0 r1 lo1 u1 => ?_⟩
      have w0 : 0 ≤ r := r0
      have wn : n = 0 → 5 ≤ r := fun z => absurd z n1
      obtain ⟨way, hw⟩ : ∃ way, way = r := ⟨_, rfl⟩
      rw [← hw] at w0 wn
      rw [← hw]
    case' refine_2 =>
      refine ⟨_, rfl, p, 2, rfl, by decide, by decide, lo, fun r H1 r0 r1 lo1 u1 => ⟨_, _, rfl, rfl, ?_⟩⟩
      have w0 : 0 ≤ 5 + r := by omega
      have wn : n = 0 → 5 ≤ 5 + r := fun z => by omega
      obtain ⟨way, hw⟩ : ∃ way, way = 5 + r := ⟨_, rfl⟩
      rw [← hw] at w0 wn
      show tSeq _ _ _ ((L2.start ["_law_urn_here", "_law_level", "_law_sets", "_law_way"] [V.ref p, V.int ((n + 1 : Nat) : Int), V.ref q]).set 3 (some (V.int (5 + r)))) H1
      rw [← hw]
    all_goals
      have e1 := u1 q qp _ eq
      have recur : ∀ {H2 : Hp} {Q2 : VK}, n ≠ 0 → Urn H2 p → But p H H2 → (∀ v t H', RTr H' v t → t.good n = true → Urn H' p → But p H2 H' → Q2 v H') → spR [.ref p, .int (((n + 1 : Nat) : Int) - 1), .ref q] H2 Q2 E0 := fun {H2 Q2} n0 lo2 u2 k2 => by
        rw [hR n0]
        exact ⟨p, q, by rw [show (((n + 1 : Nat) : Int) - 1) = (n : Int) by omega], lo2, u2 q qp _ eq, qp, k2⟩
      refine ⟨_, rfl, rfl, _, rfl, ite2 (fun d0 => ?_) (fun d0 => ?_)⟩
      · have d1 : way = 0 := V.int.inj (of_decide_eq_true d0)
        refine ⟨_, rfl, _, rfl, _, _, rfl, rfl, _, rfl, recur (fun z => by have := wn z; omega) lo1 u1 fun v t H2 rt gt lo2 u2 => ?_⟩
        refine ⟨lp 3 (by decide), fun a na => ?_⟩
        refine k _ (.op "neg" [t]) _ (.op upd_same (by decide +kernel) (.cons (rt.on (grow na)) .nil)) ?_ (lo2.same (grow na)) ((u1.trans u2).trans (.of (grow na)))
        have z : nameZ "neg" = true := by decide +kernel
        simp [Tr.good, gt, z]
      refine ⟨_, rfl, rfl, _, rfl, ite2 (fun d1 => ?_) (fun d1 => ?_)⟩
      · refine ⟨lp 2 (by decide), fun a na => ?_⟩
        refine k _ (.op "one" []) _ (.op upd_same (by decide +kernel) .nil) ?_ (lo1.same (grow na)) (u1.trans (.of (grow na)))
        have z : nameZ "one" = true := by decide +kernel
        simp [Tr.good, z]
      refine ⟨_, rfl, _, _, rfl, rfl, _, rfl, ite2 (fun d2 => ?_) (fun d2 => ?_)⟩
      · have d3 := of_decide_eq_true d2
        have n0 : n ≠ 0 := fun z => by
          have := wn z
          omega
        refine ⟨_, rfl, lp 2 (by decide), fun l nl => ?_⟩
        have s2 := grow (o := .lst [.str "add", .str "mul"]) nl
        refine ⟨p, l, _, rfl, upd_same, by simp, by simp, lo1.ne nl, lo1.same s2, fun x hx H2 lo2 u2 => ?_⟩
        have hz : ∃ z : Str, x = .str z ∧ nameZ z = true ∧ z.length ≤ 100 := by
          simp only [List.mem_cons, List.not_mem_nil, or_false] at hx
          rcases hx with rfl | rfl
          · exact ⟨_, rfl, by decide +kernel, by decide +kernel⟩
          · exact ⟨_, rfl, by decide +kernel, by decide +kernel⟩
        obtain ⟨z, rfl, nz, lz⟩ := hz
        have u02 := (u1.trans (.of s2)).trans u2
        refine ⟨_, rfl, _, rfl, _, _, rfl, rfl, _, rfl, recur n0 lo2 u02 fun v t H3 rt gt lo3 u3 => ?_⟩
        refine ⟨_, rfl, _, rfl, _, _, rfl, rfl, _, rfl, recur n0 lo3 (u02.trans u3) fun v2 t2 H4 rt2 gt2 lo4 u4 => ?_⟩
        refine ⟨lp 4 (by decide), fun a na => ?_⟩
        have s5 := grow (o := .tup [.str "op", .str z, v, v2]) na
        refine k _ (.op z [t, t2]) _ (.op upd_same lz (.cons ((rt.kp (lo3.kp lo4 u4)).on s5) (.cons (rt2.on s5) .nil))) ?_ (lo4.same s5) (((u02.trans u3).trans u4).trans (.of s5))
        simp [Tr.good, gt, gt2, nz]
      have w5 : 5 ≤ way := by
        have : ¬ (way < 5) := fun z => d2 (decide_eq_true z)
        omega
      refine ⟨_, rfl, rfl, _, rfl, ?_⟩
      by_cases d3 : (V.int way : V) = V.int 5
      · refine iteD d3 ⟨_, rfl, lp 0 (by decide), fun l nl => ?_⟩
        have s2 := grow (o := .lst []) nl
        refine ⟨.list [.str "p"], .list [], .lst (SqL.of (s2 _ _ e1)) (.cons (.str _) .nil), .lst (SqL.of upd_same) .nil, by decide +kernel, by decide +kernel, _, rfl, ?_⟩
        refine iteT ?_
        refine ⟨_, rfl, _, rfl, p, q, _, rfl, s2 _ _ e1, by simp, by simp, qp, lo1.same s2, fun x hx H2 lo2 u2 => ?_⟩
        rw [List.mem_singleton] at hx
        subst hx
        refine ⟨_, rfl, p, 3, rfl, by decide, by decide, lo2, fun r H3 r0 r1 lo3 u3 => ⟨_, _, rfl, rfl, ?_⟩⟩
        refine ⟨lp 3 (by decide), fun a na => ?_⟩
        refine k _ (.att "p" (1 + r)) _ (.att upd_same (by decide +kernel)) ?_ (lo3.same (grow na)) ((((u1.trans (.of s2)).trans u2).trans u3).trans (.of (grow na)))
        have z : nameZ "p" = true := by decide +kernel
        simp only [Tr.good, z, Bool.true_and, Bool.and_eq_true, decide_eq_true_eq]
        omega
      · refine iteDn d3 ⟨_, rfl, lp 2 (by decide), fun l nl => ?_⟩
        have s2 := grow (o := .lst [.str "a", .str "b"]) nl
        refine ⟨p, l, _, rfl, upd_same, by simp, by simp, lo1.ne nl, lo1.same s2, fun x hx H2 lo2 u2 => ?_⟩
        have hz : ∃ z : Str, x = .str z ∧ nameZ z = true ∧ z.length ≤ 100 := by
          simp only [List.mem_cons, List.not_mem_nil, or_false] at hx
          rcases hx with rfl | rfl
          · exact ⟨_, rfl, by decide +kernel, by decide +kernel⟩
          · exact ⟨_, rfl, by decide +kernel, by decide +kernel⟩
        obtain ⟨z, rfl, nz, lz⟩ := hz
        refine ⟨_, rfl, p, 5, rfl, by decide, by decide, lo2, fun r H3 r0 r1 lo3 u3 => ⟨_, _, rfl, rfl, ?_⟩⟩
        refine ⟨_, rfl, p, 9, rfl, by decide, by decide, lo3, fun r2 H4 r20 r21 lo4 u4 => ⟨_, _, rfl, rfl, ?_⟩⟩
        refine ⟨lp 4 (by decide), fun a na => ?_⟩
        refine k _ (.load z (r - 2) (r2 - 4)) _ (.load upd_same lz) ?_ (lo4.same (grow na)) (((((u1.trans (.of s2)).trans u2).trans u3).trans u4).trans (.of (grow na)))
        have z1 : inB (r - 2) = true := inB_iff.mpr (by constructor <;> omega)
        have z2 : inB (r2 - 4) = true := inB_iff.mpr (by constructor <;> omega)
        simp [Tr.good, nz, z1, z2]
theorem ok_grow {f fT fP : Addr} {fd fdT fdP : FuncData} (F : Fun K "_law_tree" "_law_tree" tGrow f fd) (bF : Binds K fd ["_law_urn_here", "_law_level", "_law_sets"] []) (gF : mg "_law_tree" = some (.ref f))
    (dT : Dn P w K mg base CX0 "_law_pull" ["_law_urn_here", "_law_total"] 1 spPull fT fdT) (dP : Dn P w K mg base CX0 "_law_one" ["_law_urn_here", "_law_items"] 2 spOne fP fdP) :
    ∀ n, FnOk P w K mg base CX0 (2 + n + 1) f fd ["_law_urn_here", "_law_level", "_law_sets"] (spGrow (n + 1))
  | 0 => step_grow F bF gF dT dP (fnok_false (j := 2 + 0)) fun h => absurd rfl h
  | n + 1 => step_grow F bF gF dT dP (ok_grow F bF gF dT dP n) fun _ => rfl
end
end K19
namespace K19
open PySem L2
open L2.My
mutual
inductive LS (g : Nat → Sh → Prop) : Lit → Sh → Prop
  | v {k : Nat} {s : Sh} (h : g k s) : LS g (.v k) s
  | hole : LS g (.t [.s "hole"]) .hole
  | load : LS g (.t [.s "load"]) .load
  | store {x : Lit} {s : Sh} (h : LS g x s) : LS g (.t [.s "store", x]) (.store s)
  | op {z : Str} {xs : List Lit} {ps : List Sh} (l : z.length ≤ 100) (h : LSs g xs ps) : LS g (.t (.s "op" :: .s z :: xs)) (.op z ps)
inductive LSs (g : Nat → Sh → Prop) : List Lit → List Sh → Prop
  | nil : LSs g [] []
  | cons {x : Lit} {s : Sh} {xs : List Lit} {ps : List Sh} (h : LS g x s) (r : LSs g xs ps) : LSs g (x :: xs) (s :: ps)
end
mutual
theorem LS.rsh {σ : L2.St} {H0 H : Hp} {g : Nat → Sh → Prop} (hg : ∀ k s u, g k s → σ[k]? = some (some u) → RSh H u s) : ∀ {x : Lit} {s : Sh} {u : V}, LS g x s → LitAt σ H0 H u x → RSh H u s
  | _, _, _, .v h, .v e => hg _ _ _ h e
  | _, _, _, .hole, .t _ e (.cons (.s _) .nil) => .hole e
  | _, _, _, .load, .t _ e (.cons (.s _) .nil) => .load e
  | _, _, _, .store h, .t _ e (.cons (.s _) (.cons a .nil)) => .store e (h.rsh hg a)
  | _, _, _, .op l h, .t _ e (.cons (.s _) (.cons (.s _) r)) => .op e l (h.rshs hg r)
theorem LSs.rshs {σ : L2.St} {H0 H : Hp} {g : Nat → Sh → Prop} (hg : ∀ k s u, g k s → σ[k]? = some (some u) → RSh H u s) : ∀ {xs : List Lit} {ps : List Sh} {us : List V}, LSs g xs ps → LitAll σ H0 H us xs → RShs H us ps
  | _, _, _, .nil, .nil => .nil
  | _, _, _, .cons h r, .cons a b => .cons (h.rsh hg a) (r.rshs hg b)
end
theorem RShs.app {H : Hp} : ∀ {vs : List V} {ps : List Sh}, RShs H vs ps → ∀ {us : List V} {qs : List Sh}, RShs H us qs → RShs H (vs ++ us) (ps ++ qs)
  | _, _, .nil, _, _, h => h
  | _, _, .cons q r, _, _, h => .cons q (r.app h)
theorem cat_lit {σ : L2.St} {H : Hp} {l1 : Addr} {xs1 : List V} {ps qs : List Sh} {ys : List Lit} {Q : VK} {g : Nat → Sh → Prop} (e1 : H l1 = some (.lst xs1)) (ok : Lit.ok σ (.l ys)) (t1 : RShs H xs1 ps)
    (hg : ∀ k s u, g k s → σ[k]? = some (some u) → RSh H u s) (ls : LSs g ys qs) (len : xs1.length + ys.length ≤ 1000)
    (k : ∀ l xs2 H', Same H H' → H l = none → H' l = some (.lst xs2) → RShs H' xs2 (ps ++ qs) → Q (.ref l) H') : tLit (.l ys) σ H fun u H' => rCat (.ref l1) u H' Q := by
  refine ⟨ok, fun u H1 s1 a => ?_⟩
  cases a with
  | @l b ws _ n e h =>
    have ly := h.len
    refine ⟨l1, b, xs1, ws, rfl, rfl, s1 _ _ e1, e, ?_, fun l nl => ?_⟩
    · have := line1000
      omega
    · have s2 : Same H1 (upd H1 l (.lst (xs1 ++ ws))) := grow nl
      exact k l _ _ (s1.trans s2) (same_none s1 nl) upd_same ((t1.on (s1.trans s2)).app ((ls.rshs (fun k s u a b => (hg k s u a b).on s1) h).on s2))
def gM (k : Nat) (s : Sh) : Prop := (k = 0 ∧ s = .hole) ∨ (k = 1 ∧ s = .load)
theorem hgM {H : Hp} {a b : V} {r : L2.St} (ha : RSh H a .hole) (hb : RSh H b .load) : ∀ k s u, gM k s → (some a :: some b :: r)[k]? = some (some u) → RSh H u s := by
  rintro k s u (⟨rfl, rfl⟩ | ⟨rfl, rfl⟩) h
  · cases h
    exact ha
  · cases h
    exact hb
section
variable {P : Program} {w : World} {K : PySem.W.Frag} {mg : Str → Option Value} {base : Heap}
def spMenu : Sp := fun vs H Q _ => vs = [] ∧ ∀ l xs H', Same H H' → H l = none → H' l = some (.lst xs) → RShs H' xs menuS → Q (.ref l) H'
theorem scMenu : FnScope ["_law_hole", "_law_load", "_law_found"] [] (defScope tMenu) := ⟨rfl, rfl, rfl, by decide +kernel, rfl, by decide +kernel, by decide +kernel⟩
theorem ok_menu {f : Addr} {fd : FuncData} (F : Fun K "_law_menu" "_law_menu" tMenu f fd) : FnOk P w K mg base CX0 1 f fd [] spMenu := by
  refine F.ok scMenu (fun vs H Q E h => ?_) (fun cdv A outer s H vs Q E hr h => ?_)
  · obtain ⟨rfl, _⟩ := h
    rfl
  · obtain ⟨rfl, k⟩ := h
    have lv0 := fun {X : Cx} {i : Nat} {e : Expr} (h : PE X e (tVar i)) => pl_v i h
    refine ⟨_, pss_cons (ps_asg (pl_tup (pl_cons (pl_tup (pl_cons pl_str pl_nil)) (pl_cons (pl_tup (pl_cons pl_str pl_nil)) pl_nil))) (pg_tup rfl (pgs_cons (pg_name (i := 0) scMenu.nd rfl (.inl rfl)) (pgs_cons (pg_name (i := 1) scMenu.nd rfl (.inl rfl)) pgs_nil))))
      (pss_cons (ps_set (i := 2) scMenu.nd rfl (.inl rfl) (pl_lst (pl_cons (pl_tup (pl_cons pl_str (pl_cons pl_str (pl_cons (lv0 (pv 0)) (pl_cons (lv0 (pv 0)) pl_nil))))) (pl_cons (pl_tup (pl_cons pl_str (pl_cons pl_str (pl_cons (lv0 (pv 0)) (pl_cons (lv0 (pv 0)) pl_nil)))))
          (pl_cons (lv0 (pv 1)) (pl_cons (pl_tup (pl_cons pl_str (pl_cons (lv0 (pv 0)) pl_nil))) (pl_cons (pl_tup (pl_cons pl_str (pl_cons pl_str (pl_cons (lv0 (pv 0)) pl_nil)))) pl_nil)))))))
      (pss_cons (ps_set (i := 2) scMenu.nd rfl (.inl rfl) (pe_op op_cat (pv 2) (pl_lst (pl_cons (pl_tup (pl_cons pl_str (pl_cons pl_str pl_nil))) (pl_cons (pl_tup (pl_cons pl_str (pl_cons pl_str (pl_cons (pl_tup (pl_cons pl_str (pl_cons pl_str (pl_cons (lv0 (pv 0)) (pl_cons (lv0 (pv 0)) pl_nil))))) (pl_cons (lv0 (pv 0)) pl_nil)))))
          (pl_cons (pl_tup (pl_cons pl_str (pl_cons pl_str (pl_cons (lv0 (pv 1)) (pl_cons (lv0 (pv 0)) pl_nil))))) pl_nil))))))
      (pss_cons (ps_set (i := 2) scMenu.nd rfl (.inl rfl) (pe_op op_cat (pv 2) (pl_lst (pl_cons (pl_tup (pl_cons pl_str (pl_cons pl_str (pl_cons (lv0 (pv 0)) (pl_cons (lv0 (pv 1)) pl_nil))))) (pl_cons (pl_tup (pl_cons pl_str (pl_cons (pl_tup (pl_cons pl_str (pl_cons pl_str (pl_cons (lv0 (pv 0)) (pl_cons (lv0 (pv 0)) pl_nil))))) pl_nil)))
          (pl_cons (pl_tup (pl_cons pl_str (pl_cons (lv0 (pv 1)) pl_nil))) pl_nil))))))
      (pss_cons (ps_set (i := 2) scMenu.nd rfl (.inl rfl) (pe_op op_cat (pv 2) (pl_lst (pl_cons (pl_tup (pl_cons pl_str (pl_cons pl_str (pl_cons (pl_tup (pl_cons pl_str (pl_cons pl_str (pl_cons (lv0 (pv 0)) pl_nil)))) pl_nil)))) (pl_cons (pl_tup (pl_cons pl_str (pl_cons pl_str (pl_cons (lv0 (pv 1)) (pl_cons (lv0 (pv 1)) pl_nil)))))
          (pl_cons (pl_tup (pl_cons pl_str (pl_cons (pl_tup (pl_cons pl_str (pl_cons pl_str (pl_cons (lv0 (pv 0)) pl_nil)))) pl_nil))) pl_nil))))))
      (pss_cons (ps_set (i := 2) scMenu.nd rfl (.inl rfl) (pe_op op_cat (pv 2) (pl_lst (pl_cons (pl_tup (pl_cons pl_str (pl_cons pl_str (pl_cons (pl_tup (pl_cons pl_str (pl_cons pl_str pl_nil))) (pl_cons (lv0 (pv 0)) pl_nil)))))
          (pl_cons (pl_tup (pl_cons pl_str (pl_cons pl_str (pl_cons (lv0 (pv 0)) (pl_cons (pl_tup (pl_cons pl_str (pl_cons pl_str (pl_cons (lv0 (pv 0)) (pl_cons (lv0 (pv 0)) pl_nil))))) pl_nil))))) pl_nil)))))
      (pss_one (ps_ret (pe_op op_cat (pv 2) (pl_lst (pl_cons (pl_tup (pl_cons pl_str (pl_cons pl_str (pl_cons (lv0 (pv 1)) pl_nil)))) (pl_cons (pl_tup (pl_cons pl_str (pl_cons pl_str (pl_cons (lv0 (pv 0)) (pl_cons (lv0 (pv 0)) pl_nil))))) pl_nil))))))))))), ?_⟩
    refine ⟨by simp [Lit.ok, Lit.okA, L2.start], fun u0 H1 s1 a0 => ?_⟩
    cases a0 with
    | @t b0 us _ n0 e0 a1 =>
    have tt := LSs.rshs (g := gM) (ps := [.hole, .load]) (fun k s u _ h => ?_) (by repeat' (first | exact LSs.nil | apply LSs.cons | exact LS.v (.inl ⟨rfl, rfl⟩) | exact LS.v (.inr ⟨rfl, rfl⟩) | exact LS.hole | exact LS.load | apply LS.store | apply LS.op | decide +kernel)) a1
    rotate_left
    · match k, h with
      | 0, h => cases h
      | 1, h => cases h
      | 2, h => cases h
    match us, a1, tt, e0 with
    | [ho, ld], _, tt, e0 =>
    refine ⟨b0, _, rfl, SqT.of e0, rfl, ho, _, rfl, ld, _, rfl, rfl, ?_⟩
    obtain ⟨th, tl⟩ : RSh H1 ho .hole ∧ RSh H1 ld .load := by
      cases tt with
      | cons x y =>
        cases y with
        | cons z _ => exact ⟨x, z⟩
    clear tt
    refine ⟨by simp [Lit.ok, Lit.okA, L2.start], fun u H2 s2 a2 => ?_⟩
    cases a2 with
    | l n2 e2 h2 =>
    have t2 := LSs.rshs (g := gM) (ps := [.op "add" [.hole, .hole], .op "mul" [.hole, .hole], .load, .store .hole, .op "neg" [.hole]]) (fun k s u a b => (hgM th tl k s u a b).on s2) (by repeat' (first | exact LSs.nil | apply LSs.cons | exact LS.v (.inl ⟨rfl, rfl⟩) | exact LS.v (.inr ⟨rfl, rfl⟩) | exact LS.hole | exact LS.load | apply LS.store | apply LS.op | decide +kernel)) h2
    have l2 := h2.len
    clear h2
    have th := th.on s2
    have tl := tl.on s2
    have s02 := s1.trans s2
    refine ⟨_, rfl, cat_lit (qs := [.op "one" [], .op "add" [.op "mul" [.hole, .hole], .hole], .op "mul" [.load, .hole]]) e2 (by simp [Lit.ok, Lit.okA, L2.start]) t2 (hgM th tl) (by repeat' (first | exact LSs.nil | apply LSs.cons | exact LS.v (.inl ⟨rfl, rfl⟩) | exact LS.v (.inr ⟨rfl, rfl⟩) | exact LS.hole | exact LS.load | apply LS.store | apply LS.op | decide +kernel)) (by rw [l2]; decide) fun l3 xs3 H3 s3 n3 e3 t3 => ?_⟩
    have k3 := t3.len
    have th := th.on s3
    have tl := tl.on s3
    refine ⟨_, rfl, cat_lit (qs := [.op "add" [.hole, .load], .store (.op "add" [.hole, .hole]), .store .load]) e3 (by simp [Lit.ok, Lit.okA, L2.start]) t3 (hgM th tl) (by repeat' (first | exact LSs.nil | apply LSs.cons | exact LS.v (.inl ⟨rfl, rfl⟩) | exact LS.v (.inr ⟨rfl, rfl⟩) | exact LS.hole | exact LS.load | apply LS.store | apply LS.op | decide +kernel)) (by rw [k3]; decide) fun l4 xs4 H4 s4 n4 e4 t4 => ?_⟩
    have k4 := t4.len
    have th := th.on s4
    have tl := tl.on s4
    refine ⟨_, rfl, cat_lit (qs := [.op "neg" [.op "neg" [.hole]], .op "add" [.load, .load], .store (.op "neg" [.hole])]) e4 (by simp [Lit.ok, Lit.okA, L2.start]) t4 (hgM th tl) (by repeat' (first | exact LSs.nil | apply LSs.cons | exact LS.v (.inl ⟨rfl, rfl⟩) | exact LS.v (.inr ⟨rfl, rfl⟩) | exact LS.hole | exact LS.load | apply LS.store | apply LS.op | decide +kernel)) (by rw [k4]; decide) fun l5 xs5 H5 s5 n5 e5 t5 => ?_⟩
    have k5 := t5.len
    have th := th.on s5
    have tl := tl.on s5
    refine ⟨_, rfl, cat_lit (qs := [.op "mul" [.op "one" [], .hole], .op "add" [.hole, .op "add" [.hole, .hole]]]) e5 (by simp [Lit.ok, Lit.okA, L2.start]) t5 (hgM th tl) (by repeat' (first | exact LSs.nil | apply LSs.cons | exact LS.v (.inl ⟨rfl, rfl⟩) | exact LS.v (.inr ⟨rfl, rfl⟩) | exact LS.hole | exact LS.load | apply LS.store | apply LS.op | decide +kernel)) (by rw [k5]; decide) fun l6 xs6 H6 s6 n6 e6 t6 => ?_⟩
    have k6 := t6.len
    have th := th.on s6
    have tl := tl.on s6
    have s06 := (((s02.trans s3).trans s4).trans s5).trans s6
    refine ⟨_, rfl, cat_lit (qs := [.op "neg" [.load], .op "add" [.hole, .hole]]) e6 (by simp [Lit.ok, Lit.okA, L2.start]) t6 (hgM th tl) (by repeat' (first | exact LSs.nil | apply LSs.cons | exact LS.v (.inl ⟨rfl, rfl⟩) | exact LS.v (.inr ⟨rfl, rfl⟩) | exact LS.hole | exact LS.load | apply LS.store | apply LS.op | decide +kernel)) (by rw [k6]; decide) fun l7 xs7 H7 s7 n7 e7 t7 => ?_⟩
    exact k l7 xs7 H7 (s06.trans s7) (same_none s06 n7) e7 t7
/-! ### _law_below -/
def spBelow : Sp := fun vs H Q _ => ∃ v t, vs = [v] ∧ RTr H v t ∧ (t.subs.length ≤ 1000) ∧ ∀ l xs H', Same H H' → H' l = some (.lst xs) → RTrs H' xs t.subs → Q (.ref l) H'
theorem scBelow : FnScope ["_law_tree_here"] ["_law_tree_here"] (defScope tBelow) := ⟨rfl, rfl, rfl, by decide +kernel, rfl, by decide +kernel, by decide +kernel⟩
theorem ok_below {f : Addr} {fd : FuncData} (F : Fun K "_law_below" "_law_below" tBelow f fd) (hlist : mg "list" = none) : FnOk P w K mg base CX0 1 f fd ["_law_tree_here"] spBelow := by
  refine F.ok scBelow (fun vs H Q E h => ?_) (fun cdv A outer s H vs Q E hr h => ?_)
  · obtain ⟨v, t, rfl, _⟩ := h
    rfl
  · obtain ⟨v, t, rfl, rt, hl, k⟩ := h
    refine ⟨_, pss_cons (ps_if (pt_cmpR op_eq (pe_ix ix_tup (pv 0) pe_int (fun _ _ => rfl)) pe_str (nomark _)) (pss_one (ps_ret (pe_lst (pa_cons (pe_ix ix_tup (pv 0) pe_int (fun _ _ => rfl)) pa_nil)))) pss_nil)
      (pss_one (ps_ret (pe_ifExp (pt_cmpR op_eq (pe_ix ix_tup (pv 0) pe_int (fun _ _ => rfl)) pe_str (nomark _)) (pe_callTy call_list_of (by rfl) hlist (by decide +kernel) (pa_cons (pe_slice sl_tupA (pv 0) (po_some pe_int) po_none) pa_nil)) (pe_lst pa_nil)))), ?_⟩
    obtain ⟨b, ys, rfl, eb⟩ := rt.open
    refine ⟨_, rfl, b, _, 0, _, rfl, rfl, SqT.of eb, atI_nat (j := 0) rfl, rfl, _, rfl, ?_⟩
    rw [dec_beq]
    cases rt with
    | store e l q =>
      rw [eb] at e
      cases e
      refine iteT ⟨_, rfl, b, _, 5, _, rfl, rfl, SqT.of eb, atI_nat (j := 5) rfl, (by show 1 ≤ sizeLine; decide), fun l nl => ?_⟩
      exact k l _ _ (grow nl) upd_same (.cons (q.on (grow nl)) .nil)
    | att e l =>
      refine iteF ⟨_, rfl, b, _, 0, _, rfl, rfl, SqT.of eb, atI_nat (j := 0) rfl, rfl, _, rfl, iteF ⟨(by show 0 ≤ sizeLine; decide), fun l nl => ?_⟩⟩
      exact k l _ _ (grow nl) upd_same .nil
    | load e l =>
      refine iteF ⟨_, rfl, b, _, 0, _, rfl, rfl, SqT.of eb, atI_nat (j := 0) rfl, rfl, _, rfl, iteF ⟨(by show 0 ≤ sizeLine; decide), fun l nl => ?_⟩⟩
      exact k l _ _ (grow nl) upd_same .nil
    | op e l q =>
      rw [eb] at e
      cases e
      refine iteF ⟨_, rfl, b, _, 0, _, rfl, rfl, SqT.of eb, atI_nat (j := 0) rfl, rfl, _, rfl, iteT ?_⟩
      refine ⟨_, rfl, _, rfl, ?_⟩
      unfold tNoPart
      refine sl_go eb fun p H1 s1 e1 => ?_
      rw [cut2] at e1
      refine ⟨p, _, rfl, .inr (SqT.of e1), fun l nl => ?_⟩
      exact k l _ _ (s1.trans (grow nl)) upd_same ((q.on s1).on (grow nl))
end
end K19
namespace K19
open PySem L2
open L2.My
theorem nat_text (i : Nat) (h : i < 1000) : ((toString ((i : Nat) : Int) : String) : Str).length ≤ 3 := by
  show (Str.ofString (Nat.repr i)).length ≤ 3
  rw [PySem.ofString_length, ← String.length_toList, Nat.toList_repr]
  exact (Nat.length_toDigits_le_iff (b := 10) (n := i) (k := 3) (by decide) (by decide)).mpr h
theorem nat_log (i : Nat) (h : i < 1000) : (((i : Nat) : Int)).natAbs.log2 < 1920 := by
  rw [Int.natAbs_natCast]
  by_cases z : i = 0
  · subst z
    decide
  · exact Nat.lt_of_lt_of_le ((Nat.log2_lt z).mpr (show i < 2 ^ 10 from Nat.lt_trans h (by decide))) (by decide)
theorem fitL_false : ∀ {ps : List Sh} {ts : List Tr} {i : Nat} {s : Sh} {t : Tr}, ps[i]? = some s → ts[i]? = some t → fit s t = false → fitL ps ts = false
  | [], _, _, _, _, h, _, _ => by simp at h
  | _ :: _, [], _, _, _, _, h, _ => by simp at h
  | p :: ps, q :: ts, 0, _, _, h1, h2, h3 => by
    cases h1
    cases h2
    rw [fitL, h3, Bool.false_and]
  | p :: ps, q :: ts, i + 1, _, _, h1, h2, h3 => by
    rw [fitL, fitL_false (ps := ps) (ts := ts) (i := i) h1 h2 h3, Bool.and_false]
theorem fitL_true : ∀ {ps : List Sh} {ts : List Tr}, (∀ (i : Nat) (s : Sh) (t : Tr), ps[i]? = some s → ts[i]? = some t → fit s t = true) → fitL ps ts = true
  | [], _, _ => by rw [fitL]
  | _ :: _, [], _ => by rw [fitL]
  | p :: ps, q :: ts, h => by
    rw [fitL, h 0 p q rfl rfl, Bool.true_and]
    exact fitL_true fun i s t h1 h2 => h (i + 1) s t h1 h2
theorem szs_all {ps : List Sh} {i : Nat} {s : Sh} (h : ps[i]? = some s) : szs (ps.take i) + s.sz ≤ szs ps := by
  have h1 := szs_take ps (i + 1)
  rw [take_snoc h] at h1
  have h2 : ∀ a b : List Sh, szs (a ++ b) = szs a + szs b := by
    intro a
    induction a with
    | nil => intro b; simp [szs]
    | cons x r ih => intro b; simp only [List.cons_append, szs, ih]; omega
  rw [h2] at h1
  simp only [szs, Nat.add_zero] at h1
  exact h1
section
variable {P : Program} {w : World} {K : PySem.W.Frag} {mg : Str → Option Value} {base : Heap}
/-! ### _law_holes -/
def spHolesL (n : Nat) : Sp := fun vs H Q _ => ∃ v u z s t, vs = [v, u, .str z] ∧ RSh H v s ∧ RTr H u t ∧ s.sz ≤ n ∧ s.sz ≤ 100 ∧ z.length + 4 * s.sz ≤ 1000 ∧
  (fit s t = false → ∀ H', Same H H' → Q .non H') ∧ (fit s t = true → ∀ l ts H', Same H H' → H' l = some (.lst ts) → ts.length ≤ s.sz → Q (.ref l) H')
theorem scHolesL : FnScope ["_law_shape", "_law_tree_here", "_law_text_here", "_law_found", "_law_inner", "_law_at", "_law_one_here", "_law_told_here"] ["_law_shape", "_law_tree_here", "_law_text_here"] (defScope tHolesL) := ⟨rfl, rfl, rfl, by decide +kernel, rfl, by decide +kernel, by decide +kernel⟩
/-- shape and tree are of one kind, and of one length -/
def meetK (s : Sh) (t : Tr) : Bool := match s, t with
  | .store _, .store _ _ _ _ _ => true
  | .load, .load _ _ _ => true
  | .op z ps, .op y ts => z == y && ps.length == ts.length
  | _, _ => false
theorem fit_meet {s : Sh} {t : Tr} (h : s.kind ≠ "hole") : fit s t = (meetK s t && fitL s.subs t.subs) := by
  cases s with
  | hole => exact absurd rfl h
  | load => cases t <;> simp [fit, meetK, Sh.subs, Tr.subs, fitL]
  | store s => cases t <;> simp [fit, meetK, Sh.subs, Tr.subs, fitL]
  | op z ps => cases t <;> simp [fit, meetK, Sh.subs, Tr.subs, fitL]
theorem meet_kind {s : Sh} {t : Tr} (h : (s.kind == t.kind) = false) : meetK s t = false := by
  cases s <;> cases t <;> first | rfl | exact nomatch h
theorem meet_yes {s : Sh} {t : Tr} (h : (s.kind == t.kind) = true) (k : s.kind ≠ "hole") (n : (s.kind == ("op" : Str)) = false) : meetK s t = true := by
  cases s <;> cases t <;> first | rfl | (cases h; done) | (cases n; done) | exact absurd rfl k
theorem both_op {H : Hp} {a b : Addr} {s : Sh} {t : Tr} {xs ys : List V} (rs : RSh H (.ref a) s) (rt : RTr H (.ref b) t) (ea : H a = some (.tup (.str s.kind :: xs))) (eb : H b = some (.tup (.str t.kind :: ys))) (h : (s.kind == t.kind) = true) (n : (s.kind == ("op" : Str)) = true) :
    ∃ z y vs us, xs = .str z :: vs ∧ ys = .str y :: us ∧ meetK s t = (z == y && vs.length == us.length) := by
  cases rs with
  | hole _ => exact nomatch n
  | load _ => exact nomatch n
  | store _ _ => exact nomatch n
  | op e _ q =>
    cases rt with
    | att _ _ => exact nomatch h
    | load _ _ => exact nomatch h
    | store _ _ _ => exact nomatch h
    | op e2 _ q2 =>
      rw [ea] at e
      rw [eb] at e2
      cases e
      cases e2
      refine ⟨_, _, _, _, rfl, rfl, ?_⟩
      rw [q.len, q2.len]
      rfl
theorem meet_len {s : Sh} {t : Tr} (h : meetK s t = true) : s.subs.length = t.subs.length := by
  cases s <;> cases t <;> simp_all [meetK, Sh.subs, Tr.subs]
theorem step_holesL {n : Nat} {spR : Sp} {f fB : Addr} {fd fdB : FuncData} (F : Fun K "_law_holes" "_law_holes" tHolesL f fd) (T : Txt mg) (henum : mg "enumerate" = none) (bF : Binds K fd ["_law_shape", "_law_tree_here", "_law_text_here"] []) (gF : mg "_law_holes" = some (.ref f))
    (dB : Dn P w K mg base CX0 "_law_below" ["_law_tree_here"] 1 spBelow fB fdB)
    (GR : FnOk P w K mg base CX0 (n + 1) f fd ["_law_shape", "_law_tree_here", "_law_text_here"] spR) (hR : n ≠ 0 → spR = spHolesL n) :
    FnOk P w K mg base CX0 (n + 1 + 1) f fd ["_law_shape", "_law_tree_here", "_law_text_here"] (spHolesL (n + 1)) := by
  refine F.ok scHolesL (fun vs H Q E h => ?_) (fun cdv A outer s H vs Q E hr h => ?_)
  · obtain ⟨v, u, z, s, t, rfl, _⟩ := h
    rfl
  · obtain ⟨v, u, z, sh, tr, rfl, rs, rt, hz, h9, hl, kn, ks⟩ := h
    have hr1 : Room 1 _ := hr.mono (by omega)
    refine ⟨_, pss_cons (ps_if (pt_cmpR op_eq (pe_ix ix_tup (pv 0) pe_int (fun _ _ => rfl)) pe_str (nomark _))
        (pss_one (ps_ret (pe_ifExp (pt_cmpR op_eq (pe_ix ix_tup (pv 1) pe_int (fun _ _ => rfl)) pe_str (nomark _)) pe_non (pe_op op_rep (pe_lst (pa_cons (pv 2) pa_nil)) (pe_callTy call_int1 (by rfl) T.int (by decide +kernel) (pa_cons (pe_cmpR op_ne (pe_ix ix_tup (pv 1) pe_int (fun _ _ => rfl)) pe_str (nomark _)) pa_nil)))))) pss_nil)
      (pss_cons (ps_if (PW.pt (pw_or (pt_cmpR op_ne (pe_ix ix_tup (pv 0) pe_int (fun _ _ => rfl)) (pe_ix ix_tup (pv 1) pe_int (fun _ _ => rfl)) (nomark _))
          (pw_or1 (PW.pt (pw_and (pt_cmpR op_eq (pe_ix ix_tup (pv 0) pe_int (fun _ _ => rfl)) pe_str (nomark _))
            (pw_and1 (PW.pt (pw_or (pt_cmpR op_ne (pe_ix ix_tup (pv 0) pe_int (fun _ _ => rfl)) (pe_ix ix_tup (pv 1) pe_int (fun _ _ => rfl)) (nomark _))
              (pw_or1 (pt_cmpR op_ne (pe_callB call_len_seq (by rfl) T.len PySem.boot_len (pa_cons (pv 0) pa_nil)) (pe_callB call_len_seq (by rfl) T.len PySem.boot_len (pa_cons (pv 1) pa_nil)) (nomark _)))))))))))
        (pss_one (ps_ret pe_non)) pss_nil)
      (pss_cons (ps_set (i := 3) scHolesL.nd rfl (.inl rfl) (pe_lst pa_nil))
      (pss_cons (ps_set (i := 4) scHolesL.nd rfl (.inl rfl) (pe_ifExp (pt_cmpR op_eq (pe_ix ix_tup (pv 0) pe_int (fun _ _ => rfl)) pe_str (nomark _)) (pe_lst (pa_cons (pe_ix ix_tup (pv 0) pe_int (fun _ _ => rfl)) pa_nil)) (pe_callTy call_list_of (by rfl) T.list (by decide +kernel) (pa_cons (pe_slice sl_tupA (pv 0) (po_some pe_int) po_none) pa_nil))))
      (pss_cons (ps_for PassesOwn.never rfl (pi_enum rfl henum (pa_cons (pv 4) pa_nil)) (pg_tup rfl (pgs_cons (pg_name (i := 5) scHolesL.nd rfl (.inl rfl)) (pgs_cons (pg_name (i := 6) scHolesL.nd rfl (.inl rfl)) pgs_nil)))
        (pss_cons (ps_set (i := 7) scHolesL.nd rfl (.inl rfl) (pe_call GR hr rfl gF F.kp bF .nil pass0 (pa_cons (pv 6) (pa_cons (pe_ix ix_list (pe_call dB.G hr1 rfl dB.g dB.kp dB.b .nil pass0 (pa_cons (pv 1) pa_nil)) (pv 5) (fun _ _ => rfl))
            (pa_cons (pe_op op_add_str (pe_op op_add_str (pv 2) pe_str) (pe_callTy call_str_int (by rfl) T.str (by decide +kernel) (pa_cons (pv 5) pa_nil))) pa_nil)))))
        (pss_cons (ps_if (pt_cmpR op_isN (pv 7) pe_non (nomark _)) (pss_one (ps_ret pe_non)) pss_nil)
        (pss_one (ps_set (i := 3) scHolesL.nd rfl (.inl rfl) (pe_op op_cat (pv 3) (pv 7)))))))
      (pss_one (ps_ret (pv 3))))))), ?_⟩
    have line : (1000 : Nat) ≤ sizeLine := by decide
    obtain ⟨a, rfl⟩ : ∃ a, v = .ref a := by
      obtain ⟨a, _, e, _⟩ := rs.open
      exact ⟨a, e⟩
    obtain ⟨b, ys, rfl, eb⟩ := rt.open
    obtain ⟨xs, vs, ea, rp, ct, cf⟩ := rs.parts
    refine ⟨_, rfl, a, _, 0, _, rfl, rfl, SqT.of ea, atI_nat (j := 0) rfl, rfl, _, rfl, ?_⟩
    rw [dec_beq]
    cases c0 : (sh.kind == ("hole" : Str)) with
    | true =>
      refine iteT ⟨_, rfl, b, _, 0, _, rfl, rfl, SqT.of eb, atI_nat (j := 0) rfl, rfl, _, rfl, ?_⟩
      rw [dec_beq]
      have e0 : sh = .hole := by
        cases sh <;> first | rfl | exact nomatch c0
      subst e0
      cases c1 : (tr.kind == ("store" : Str)) with
      | true =>
        have z : fit .hole tr = false := by
          cases tr <;> first | rfl | exact nomatch c1
        exact iteT (kn z H (Same.refl H))
      | false =>
        have z : fit .hole tr = true := by
          cases tr <;> first | rfl | exact nomatch c1
        refine iteF ⟨_, rfl, (by show 1 ≤ sizeLine; decide), fun l nl => ?_⟩
        refine ⟨_, rfl, b, _, 0, _, rfl, rfl, SqT.of (grow nl _ _ eb), atI_nat (j := 0) rfl, rfl, .inr ⟨_, rfl, ?_⟩⟩
        rw [dec_beq]
        cases (tr.kind == ("at" : Str)) with
        | true => exact ⟨l, 0, _, rfl, rfl, upd_same, by decide, by decide, (by show 1 * 0 ≤ sizeLine; decide), fun p np => ks z p _ _ ((grow nl).trans (grow np)) upd_same (by show 0 ≤ 1; decide)⟩
        | false => exact ⟨l, 1, _, rfl, rfl, upd_same, by decide, by decide, (by show 1 * 1 ≤ sizeLine; decide), fun p np => ks z p _ _ ((grow nl).trans (grow np)) upd_same (by show 1 ≤ 1; decide)⟩
    | false =>
      refine iteF ?_
      have k0 : sh.kind ≠ "hole" := fun q => by rw [q] at c0; exact absurd c0 (by decide)
      have ef := fit_meet (t := tr) k0
      -- they do not meet
      have leave : meetK sh tr = false → Q .non H := fun c => kn (by rw [ef, c, Bool.false_and]) H (Same.refl H)
      refine ⟨_, rfl, a, _, 0, _, rfl, rfl, SqT.of ea, atI_nat (j := 0) rfl, _, rfl, b, _, 0, _, rfl, rfl, SqT.of eb, atI_nat (j := 0) rfl, rfl, _, rfl, ?_⟩
      rw [dec_beq]
      cases c1 : (sh.kind == tr.kind) with
      | false => exact iteT (leave (meet_kind c1))
      | true =>
        refine iteF ⟨_, rfl, a, _, 0, _, rfl, rfl, SqT.of ea, atI_nat (j := 0) rfl, rfl, _, rfl, ?_⟩
        rw [dec_beq]
        cases c2 : (sh.kind == ("op" : Str))
        case' false =>
          have mt := meet_yes c1 k0 c2
          refine iteF ?_
        case' true =>
          obtain ⟨z1, y1, vs1, us1, hx1, hy1, em⟩ := both_op rs rt ea eb c1 c2
          refine iteT ⟨_, rfl, a, _, 1, _, rfl, rfl, SqT.of ea, atI_nat (j := 1) (by rw [hx1]; rfl), _, rfl, b, _, 1, _, rfl, rfl, SqT.of eb, atI_nat (j := 1) (by rw [hy1]; rfl), rfl, _, rfl, ?_⟩
          rw [dec_beq]
          cases d1 : (z1 == y1)
          case false => exact iteT (leave (by rw [em, d1, Bool.false_and]))
          refine iteF ⟨_, rfl, a, _, rfl, .inr (SqT.of ea), _, rfl, b, _, rfl, .inr (SqT.of eb), rfl, _, rfl, ?_⟩
          by_cases d2 : vs1.length = us1.length
          case neg =>
            have zd : (!decide (V.int ((.str sh.kind :: xs : List V).length : Nat) = V.int ((.str tr.kind :: ys : List V).length : Nat))) = true := by
              rw [decide_eq_false]
              · rfl
              · intro q
                have := V.int.inj q
                rw [hx1, hy1] at this
                simp only [List.length_cons] at this
                omega
            rw [zd]
            exact iteT (leave (by rw [em, show (vs1.length == us1.length) = false from by simpa using d2, Bool.and_false]))
          have zd : (!decide (V.int ((.str sh.kind :: xs : List V).length : Nat) = V.int ((.str tr.kind :: ys : List V).length : Nat))) = false := by
            rw [hx1, hy1]
            simp only [List.length_cons, d2]
            simp
          rw [zd]
          have mt : meetK sh tr = true := by rw [em, d1, show (vs1.length == us1.length) = true from by simpa using d2]; rfl
          refine iteF ?_
        all_goals
          rw [mt, Bool.true_and] at ef
          have lsub := meet_len mt
          have hsz := sz_subs sh
          have lps := szs_len sh.subs
          refine ⟨(by show 0 ≤ sizeLine; decide), fun l0 nl0 => ?_⟩
          have s1 := grow (o := .lst []) nl0
          have e1 : (upd H l0 (.lst [])) l0 = some (.lst []) := upd_same
          revert s1 e1
          generalize upd H l0 (.lst []) = H1
          intro s1 e1
          refine ⟨_, rfl, a, _, 0, _, rfl, rfl, SqT.of (s1 _ _ ea), atI_nat (j := 0) rfl, rfl, _, rfl, ?_⟩
          rw [dec_beq]
          cases c3 : (sh.kind == ("store" : Str))
          case' true =>
            have cx := ct c3
            rw [cut1] at cx
            obtain ⟨v0, hv0⟩ : ∃ v0, xs = [v0] := by
              have l1 := rp.len
              have l2 : sh.subs.length = 1 := by
                cases sh <;> first | rfl | (cases c3; done)
              rw [← cx, l2] at l1
              match xs, l1 with
              | [v0], _ => exact ⟨v0, rfl⟩
            refine iteT ⟨_, rfl, a, _, 1, v0, rfl, rfl, SqT.of (s1 _ _ ea), atI_nat (j := 1) (by rw [hv0]; rfl), (by show 1 ≤ sizeLine; decide), fun p np => ?_⟩
            rw [show [v0] = vs by rw [← cx, hv0]]
            have s2 : Same H1 (upd H1 p (.lst vs)) := grow np
            have e2 : (upd H1 p (.lst vs)) p = some (.lst vs) := upd_same
            revert s2 e2
            generalize upd H1 p (.lst vs) = H2
            intro s2 e2
          case' false =>
            have cx := cf c3
            refine iteF ⟨_, rfl, _, rfl, ?_⟩
            unfold tNoPart
            refine sl_go (s1 _ _ ea) fun p1 H1' s1' e1' => ?_
            rw [cx] at e1'
            refine ⟨p1, _, rfl, .inr (SqT.of e1'), fun p np => ?_⟩
            have s2 : Same H1 (upd H1' p (.lst vs)) := s1'.trans (grow np)
            have e2 : (upd H1' p (.lst vs)) p = some (.lst vs) := upd_same
            revert s2 e2
            generalize upd H1' p (.lst vs) = H2
            intro s2 e2
          all_goals
            have s02 := s1.trans s2
            refine ⟨_, rfl, p, vs, rfl, SqL.of e2, for_it walk_enum (fun i σ H' => ∃ o1 o2 o3 l ts, σ = [some (.ref a), some (.ref b), some (.str z), some (.ref l), some (.ref p), o1, o2, o3] ∧ Same H2 H' ∧ H' l = some (.lst ts) ∧ ts.length ≤ szs (sh.subs.take i) ∧
                ∀ (j : Nat) (s' : Sh) (t' : Tr), j < i → sh.subs[j]? = some s' → tr.subs[j]? = some t' → fit s' t' = true)
              ⟨none, none, none, l0, [], rfl, Same.refl H2, s2 _ _ e1, by simp, fun j _ _ hj => absurd hj (Nat.not_lt_zero j)⟩ (fun i σ H' _ ⟨_, _, _, _, _, _, q, _⟩ => SqL.of (q _ _ e2)) ?_ ?_⟩
            · rintro i x σ H4 H5 hi ⟨o1, o2, o3, l, ts, rfl, s4, e4, l4, f4⟩ ⟨T2, x2, y, rfl, nT, rfl, hx2, hy⟩
              cases hx2
              have s5 : Same H4 (upd H4 T2 (.tup [.int (i : Nat), y])) := grow nT
              have e5 : (upd H4 T2 (.tup [.int (i : Nat), y])) T2 = some (.tup [.int (i : Nat), y]) := upd_same
              revert s5 e5
              generalize upd H4 T2 (.tup [.int (i : Nat), y]) = H5
              intro s5 e5
              obtain ⟨sy, hsy, ry⟩ := rp.at hy
              have szy := szs_all hsy
              have i9 : i < 1000 := by
                have := (List.getElem?_eq_some_iff.mp hsy).1
                omega
              refine ⟨T2, _, rfl, SqT.of e5, rfl, _, _, rfl, _, _, rfl, rfl, ?_⟩
              have s05 := (s02.trans s4).trans s5
              refine ⟨_, rfl, _, rfl, _, tr, rfl, rt.on s05, by omega, fun lb xb H6 s6 e6 r6 => ?_⟩
              obtain ⟨ub, hub⟩ : ∃ ub, xb[i]? = some ub := by
                have h1 := (List.getElem?_eq_some_iff.mp hsy).1
                have h2 := r6.len
                exact ⟨xb[i], List.getElem?_eq_getElem (by omega)⟩
              obtain ⟨ty, hty, ryt⟩ := r6.at hub
              have tl := nat_text i i9
              have tl1 : ((("." : Str)).length) = 1 := by decide +kernel
              refine ⟨_, rfl, lb, _, i, _, rfl, rfl, SqL.of e6, atI_nat (j := i) hub, ?_⟩
              refine ⟨_, rfl, _, _, rfl, rfl, by rw [tl1]; omega, _, rfl, _, rfl, nat_log i i9, _, _, rfl, rfl, by rw [Str.length_append, tl1]; omega, ?_⟩
              have pos := sz_pos sy
              rw [hR (by omega)]
              have s06 := s05.trans s6
              refine ⟨y, _, _, sy, ty, rfl, ry.on s06, ryt, by omega, by omega, by rw [Str.length_append, Str.length_append, tl1]; omega, fun ff H7 s7 => ?_, fun ft l2 ts2 H7 s7 e7 l7 => ?_⟩
              · refine ⟨_, rfl, rfl, _, rfl, iteT ?_⟩
                exact kn (by rw [ef]; exact fitL_false hsy hty ff) H7 (s06.trans s7)
              · refine ⟨_, rfl, rfl, _, rfl, iteF ?_⟩
                have s47 := (s5.trans s6).trans s7
                refine ⟨_, rfl, _, rfl, l, l2, ts, ts2, rfl, rfl, s47 _ _ e4, e7, by omega, fun p9 np9 => ?_⟩
                refine ⟨_, _, _, p9, ts ++ ts2, rfl, (s4.trans s47).trans (grow np9), upd_same, ?_, ?_⟩
                · rw [List.length_append]
                  have h1 := szs_all hsy
                  have h3 : ∀ a b : List Sh, szs (a ++ b) = szs a + szs b := by
                    intro a
                    induction a with
                    | nil => intro b; simp [szs]
                    | cons x r ih => intro b; simp only [List.cons_append, szs, ih]; omega
                  rw [take_snoc hsy, h3]
                  simp only [szs]
                  omega
                · intro j s' t' hj h1 h2
                  by_cases c : j = i
                  · subst c
                    rw [hsy] at h1
                    rw [hty] at h2
                    cases h1
                    cases h2
                    exact ft
                  · exact f4 j s' t' (by omega) h1 h2
            · rintro σ H4 ⟨o1, o2, o3, l, ts, rfl, s4, e4, l4, f4⟩
              refine ⟨_, rfl, ks ?_ l ts H4 (s02.trans s4) e4 ?_⟩
              · rw [ef]
                refine fitL_true fun i s' t' h1 h2 => f4 i s' t' ?_ h1 h2
                rw [rp.len]
                exact (List.getElem?_eq_some_iff.mp h1).1
              · have := szs_take sh.subs vs.length
                omega
theorem ok_holesL {f fB : Addr} {fd fdB : FuncData} (F : Fun K "_law_holes" "_law_holes" tHolesL f fd) (T : Txt mg) (henum : mg "enumerate" = none) (bF : Binds K fd ["_law_shape", "_law_tree_here", "_law_text_here"] []) (gF : mg "_law_holes" = some (.ref f))
    (dB : Dn P w K mg base CX0 "_law_below" ["_law_tree_here"] 1 spBelow fB fdB) : ∀ n, FnOk P w K mg base CX0 (n + 1 + 1) f fd ["_law_shape", "_law_tree_here", "_law_text_here"] (spHolesL (n + 1))
  | 0 => step_holesL F T henum bF gF dB (fnok_false (j := 1)) fun h => absurd rfl h
  | n + 1 => step_holesL F T henum bF gF dB (ok_holesL F T henum bF gF dB n) fun _ => rfl
end
end K19
namespace K19
open PySem L2
open L2.My
theorem lpaths_subs (s : Sh) (w : Str) : s.lpaths w = (if (s.kind == w) = true then [[]] else []) ++ lpathsL s.subs 0 w := by
  cases s with
  | hole => simp [Sh.lpaths, Sh.kind, Sh.subs, lpathsL]
  | load => simp [Sh.lpaths, Sh.kind, Sh.subs, lpathsL]
  | store s => simp [Sh.lpaths, Sh.kind, Sh.subs, lpathsL]
  | op z ps => simp [Sh.lpaths, Sh.kind, Sh.subs]
theorem lpathsL_app : ∀ (a b : List Sh) (k : Nat) (w : Str), lpathsL (a ++ b) k w = lpathsL a k w ++ lpathsL b (k + a.length) w
  | [], b, k, w => by simp [lpathsL]
  | s :: r, b, k, w => by
    simp only [List.cons_append, lpathsL, lpathsL_app r b, List.append_assoc, List.length_cons]
    rw [show k + 1 + r.length = k + (r.length + 1) by omega]
mutual
theorem lpaths_len : ∀ (s : Sh) (w : Str), (s.lpaths w).length ≤ s.sz
  | .hole, w => by
    simp only [Sh.lpaths, Sh.sz]
    split <;> simp
  | .load, w => by
    simp only [Sh.lpaths, Sh.sz]
    split <;> simp
  | .store s, w => by
    have := lpaths_len s w
    simp only [Sh.lpaths, Sh.sz, List.length_append, List.length_map]
    split <;> simp <;> omega
  | .op z ps, w => by
    have := lpathsL_len ps 0 w
    simp only [Sh.lpaths, Sh.sz, List.length_append]
    split <;> simp <;> omega
theorem lpathsL_len : ∀ (ps : List Sh) (i : Nat) (w : Str), (lpathsL ps i w).length ≤ szs ps
  | [], _, _ => by simp [lpathsL]
  | s :: r, i, w => by
    have := lpaths_len s w
    have := lpathsL_len r (i + 1) w
    simp only [lpathsL, szs, List.length_append, List.length_map]
    omega
end
theorem nil_or {k : Bool} {p : List Nat} (h : p ∈ (if k = true then [[]] else [] : List (List Nat))) : p = [] := by
  cases k with
  | true => exact List.mem_singleton.mp h
  | false => exact nomatch h
mutual
theorem lpaths_deep : ∀ (s : Sh) (w : Str), ∀ p ∈ s.lpaths w, p.length ≤ s.sz
  | .hole, w, p, h => by
    rw [nil_or (k := ("hole" : Str) == w) h]
    exact Nat.zero_le _
  | .load, w, p, h => by
    rw [nil_or (k := ("load" : Str) == w) h]
    exact Nat.zero_le _
  | .store s, w, p, h => by
    rw [Sh.lpaths] at h
    rcases List.mem_append.mp h with h | h
    · rw [nil_or h]
      exact Nat.zero_le _
    · obtain ⟨q, m, rfl⟩ := List.mem_map.mp h
      have := lpaths_deep s w q m
      simp only [List.length_cons, Sh.sz]
      omega
  | .op z ps, w, p, h => by
    rw [Sh.lpaths] at h
    rcases List.mem_append.mp h with h | h
    · rw [nil_or h]
      exact Nat.zero_le _
    · have := lpathsL_deep ps 0 w p h
      simp only [Sh.sz]
      omega
theorem lpathsL_deep : ∀ (ps : List Sh) (i : Nat) (w : Str), ∀ p ∈ lpathsL ps i w, p.length ≤ 1 + szs ps
  | [], _, _, p, h => by
    rw [lpathsL] at h
    cases h
  | s :: r, i, w, p, h => by
    rw [lpathsL] at h
    rcases List.mem_append.mp h with h | h
    · obtain ⟨q, m, rfl⟩ := List.mem_map.mp h
      have := lpaths_deep s w q m
      simp only [List.length_cons, szs]
      omega
    · have := lpathsL_deep r (i + 1) w p h
      simp only [szs]
      omega
end
theorem catA_at {K : PySem.W.Frag} {X : Cx} (e : X.K = K) : OpR X (binaryOp .Add) (rCatA K) := e ▸ op_catA
theorem PRows.at {H : Hp} {rs : List V} {ls : List (List Nat)} (r : PRows H rs ls) : ∀ {i : Nat} {v : V}, rs[i]? = some v → ∃ b p, v = .ref b ∧ H b = some (.tup (p.map nV)) ∧ ls[i]? = some p := by
  induction r with
  | nil => intro i v h; simp at h
  | @cons b p rs ls eb r ih =>
    intro i v h
    cases i with
    | zero =>
      cases h
      exact ⟨b, p, rfl, eb, rfl⟩
    | succ j => exact ih h
section
variable {P : Program} {w : World} {K : PySem.W.Frag} {mg : Str → Option Value} {base : Heap}
/-! ### _law_paths -/
def spPathsL (n : Nat) : Sp := fun vs H Q _ => ∃ v z s, vs = [v, .str z] ∧ RSh H v s ∧ s.sz ≤ n ∧ s.sz ≤ 900 ∧ ∀ l rows H', Same H H' → H' l = some (.lst rows) → PRows H' rows (s.lpaths z) → Q (.ref l) H'
theorem scPathsL : FnScope ["_law_shape", "_law_word", "_law_inner", "_law_found", "_law_at", "_law_one_here", "_law_path"] ["_law_shape", "_law_word"] (defScope tPathsL) := ⟨rfl, rfl, rfl, by decide +kernel, rfl, by decide +kernel, by decide +kernel⟩
theorem step_pathsL {n : Nat} {spR : Sp} {f : Addr} {fd : FuncData} (F : Fun K "_law_paths" "_law_paths" tPathsL f fd) (T : Txt mg) (henum : mg "enumerate" = none) (bF : Binds K fd ["_law_shape", "_law_word"] []) (gF : mg "_law_paths" = some (.ref f))
    (GR : FnOk P w K mg base CX0 n f fd ["_law_shape", "_law_word"] spR) (hR : n ≠ 0 → spR = spPathsL n) :
    FnOk P w K mg base CX0 (n + 1) f fd ["_law_shape", "_law_word"] (spPathsL (n + 1)) := by
  refine F.ok scPathsL (fun vs H Q E h => ?_) (fun cdv A outer s H vs Q E hr h => ?_)
  · obtain ⟨v, z, s, rfl, _⟩ := h
    rfl
  · obtain ⟨v, z, sh, rfl, rs, hz, h9, k⟩ := h
    refine ⟨_, pss_cons (ps_set (i := 2) scPathsL.nd rfl (.inl rfl) (pe_ifExp (pt_cmpR op_eq (pe_ix ix_tup (pv 0) pe_int (fun _ _ => rfl)) pe_str (nomark _)) (pe_lst (pa_cons (pe_ix ix_tup (pv 0) pe_int (fun _ _ => rfl)) pa_nil))
          (pe_ifExp (pt_cmpR op_eq (pe_ix ix_tup (pv 0) pe_int (fun _ _ => rfl)) pe_str (nomark _)) (pe_callTy call_list_of (by rfl) T.list (by decide +kernel) (pa_cons (pe_slice sl_tupA (pv 0) (po_some pe_int) po_none) pa_nil)) (pe_lst pa_nil))))
      (pss_cons (ps_set (i := 3) scPathsL.nd rfl (.inl rfl) (pe_ifExp (pt_cmpR op_eq (pe_ix ix_tup (pv 0) pe_int (fun _ _ => rfl)) (pv 1) (nomark _)) (pe_lst (pa_cons (pe_tup pa_nil) pa_nil)) (pe_lst pa_nil)))
      (pss_cons (ps_for PassesOwn.never rfl (pi_enum rfl henum (pa_cons (pv 2) pa_nil)) (pg_tup rfl (pgs_cons (pg_name (i := 4) scPathsL.nd rfl (.inr rfl)) (pgs_cons (pg_name (i := 5) scPathsL.nd rfl (.inl rfl)) pgs_nil)))
        (pss_one (ps_set (i := 3) scPathsL.nd rfl (.inl rfl) (pe_op op_cat (pv 3) (pe_lc (own := [("_law_path", 6)]) (g := gName 6) (tt := tYes) (by rfl) scPathsL.nd (pi_list (pe_call GR hr rfl gF F.kp bF .nil pass0 (pa_cons (pv 5) (pa_cons (pv 1) pa_nil))))
            (blkOk_by (own := [("_law_path", 6)]) (N := ["_law_shape", "_law_word", "_law_inner", "_law_found", "_law_at", "_law_one_here", "_law_path"]) (sc := defScope tPathsL) (by decide +kernel))
            (fun _ _ _ _ _ => pg_name (i := 6) scPathsL.nd rfl (Or.inl rfl)) (fun _ _ _ _ _ => pts_nil) (fun _ _ _ _ _ => pe_op (catA_at (K := K) rfl) (pe_tup (pa_cons (pv 4) pa_nil)) (pv 6)))))))
      (pss_one (ps_ret (pv 3))))), ?_⟩
    have line : (1000 : Nat) ≤ sizeLine := by decide
    obtain ⟨a, rfl⟩ : ∃ a, v = .ref a := by
      obtain ⟨a, _, e, _⟩ := rs.open
      exact ⟨a, e⟩
    obtain ⟨xs, vs, ea, rp, ct, cf⟩ := rs.parts
    have hsz := sz_subs sh
    have lps := szs_len sh.subs
    refine ⟨_, rfl, a, _, 0, _, rfl, rfl, SqT.of ea, atI_nat (j := 0) rfl, rfl, _, rfl, ?_⟩
    rw [dec_beq]
    cases c3 : (sh.kind == ("store" : Str))
    case' true =>
      have cx := ct c3
      rw [cut1] at cx
      obtain ⟨v0, hv0⟩ : ∃ v0, xs = [v0] := by
        have l1 := rp.len
        have l2 : sh.subs.length = 1 := by
          cases sh <;> first | rfl | (cases c3; done)
        rw [← cx, l2] at l1
        match xs, l1 with
        | [v0], _ => exact ⟨v0, rfl⟩
      refine iteT ⟨_, rfl, a, _, 1, v0, rfl, rfl, SqT.of ea, atI_nat (j := 1) (by rw [hv0]; rfl), (by show 1 ≤ sizeLine; decide), fun p np => ?_⟩
      rw [show [v0] = vs by rw [← cx, hv0]]
      have s2 : Same H (upd H p (.lst vs)) := grow np
      have e2 : (upd H p (.lst vs)) p = some (.lst vs) := upd_same
      revert s2 e2
      generalize upd H p (.lst vs) = H2
      intro s2 e2
    case' false =>
      have cx := cf c3
      refine iteF ⟨_, rfl, a, _, 0, _, rfl, rfl, SqT.of ea, atI_nat (j := 0) rfl, rfl, _, rfl, ?_⟩
      rw [dec_beq]
      cases c4 : (sh.kind == ("op" : Str))
      case' true =>
        refine iteT ⟨_, rfl, _, rfl, ?_⟩
        unfold tNoPart
        refine sl_go ea fun p1 H1' s1' e1' => ?_
        rw [cx] at e1'
        refine ⟨p1, _, rfl, .inr (SqT.of e1'), fun p np => ?_⟩
        have s2 : Same H (upd H1' p (.lst vs)) := s1'.trans (grow np)
        have e2 : (upd H1' p (.lst vs)) p = some (.lst vs) := upd_same
        revert s2 e2
        generalize upd H1' p (.lst vs) = H2
        intro s2 e2
      case' false =>
        have vn : vs = [] := by
          have l1 := rp.len
          have l2 : sh.subs.length = 0 := by
            cases sh <;> first | rfl | (cases c3; done) | (cases c4; done)
          rw [l2] at l1
          exact List.eq_nil_of_length_eq_zero l1
        refine iteF ⟨(by show 0 ≤ sizeLine; decide), fun p np => ?_⟩
        have s2 : Same H (upd H p (.lst [])) := grow np
        have e2 : (upd H p (.lst [])) p = some (.lst vs) := by rw [vn]; exact upd_same
        revert s2 e2
        generalize upd H p (.lst []) = H2
        intro s2 e2
    all_goals
      refine ⟨_, rfl, a, _, 0, _, rfl, rfl, SqT.of (s2 _ _ ea), atI_nat (j := 0) rfl, _, rfl, rfl, _, rfl, ?_⟩
      rw [dec_beq]
      cases c5 : (sh.kind == z)
      case' true =>
        refine iteT ⟨(by show 0 ≤ sizeLine; decide), fun t0 n0 => ?_⟩
        refine ⟨(by show 1 ≤ sizeLine; decide), fun l0 nl0 => ?_⟩
        have s3 : Same H2 (upd (upd H2 t0 (.tup [])) l0 (.lst [.ref t0])) := (grow n0).trans (grow nl0)
        have q3 : ∃ r0, (upd (upd H2 t0 (.tup [])) l0 (.lst [.ref t0])) l0 = some (.lst r0) ∧ PRows (upd (upd H2 t0 (.tup [])) l0 (.lst [.ref t0])) r0 (if (sh.kind == z) = true then [[]] else []) := by
          rw [c5]
          exact ⟨_, upd_same, .cons (p := []) (grow nl0 _ _ upd_same) .nil⟩
        revert s3 q3
        generalize upd (upd H2 t0 (.tup [])) l0 (.lst [.ref t0]) = H3
        intro s3 q3
      case' false =>
        refine iteF ⟨(by show 0 ≤ sizeLine; decide), fun l0 nl0 => ?_⟩
        have s3 : Same H2 (upd H2 l0 (.lst [])) := grow nl0
        have q3 : ∃ r0, (upd H2 l0 (.lst [])) l0 = some (.lst r0) ∧ PRows (upd H2 l0 (.lst [])) r0 (if (sh.kind == z) = true then [[]] else []) := by
          rw [c5]
          exact ⟨_, upd_same, .nil⟩
        revert s3 q3
        generalize upd H2 l0 (.lst []) = H3
        intro s3 q3
      all_goals
        obtain ⟨r0, e3, p3⟩ := q3
        have s03 := s2.trans s3
        have e23 := s3 _ _ e2
        refine ⟨_, rfl, p, vs, rfl, SqL.of e23, for_it walk_enum (fun i σ H' => ∃ o1 o2 l rows, σ = [some (.ref a), some (.str z), some (.ref p), some (.ref l), o1, o2, none] ∧ Same H3 H' ∧ H' l = some (.lst rows) ∧ PRows H' rows ((if (sh.kind == z) = true then [[]] else []) ++ lpathsL (sh.subs.take i) 0 z))
          ⟨none, none, l0, r0, rfl, Same.refl H3, e3, by simpa [lpathsL] using p3⟩ (fun i σ H' _ ⟨_, _, _, _, _, q, _⟩ => SqL.of (q _ _ e23)) ?_ ?_⟩
        · rintro i x σ H4 H5 hi ⟨o1, o2, l, rows, rfl, s4, e4, p4⟩ ⟨T2, x2, y, rfl, nT, rfl, hx2, hy⟩
          cases hx2
          have s5 : Same H4 (upd H4 T2 (.tup [.int (i : Nat), y])) := grow nT
          have e5 : (upd H4 T2 (.tup [.int (i : Nat), y])) T2 = some (.tup [.int (i : Nat), y]) := upd_same
          revert s5 e5
          generalize upd H4 T2 (.tup [.int (i : Nat), y]) = H5
          intro s5 e5
          obtain ⟨sy, hsy, ry⟩ := rp.at hy
          have szy := szs_all hsy
          have pos := sz_pos sy
          refine ⟨T2, _, rfl, SqT.of e5, rfl, _, _, rfl, _, _, rfl, rfl, ?_⟩
          have s05 := (s03.trans s4).trans s5
          refine ⟨_, rfl, _, rfl, _, rfl, ?_⟩
          rw [hR (by omega)]
          refine ⟨y, z, sy, rfl, ry.on s05, by omega, by omega, fun R rws H6 s6 e6 p6 => ?_⟩
          have l6 := p6.len
          have lq := lpaths_len sy z
          refine ⟨R, rfl, ⟨rws, SqL.of e6⟩, fun D hD => lc_list (K := K) (a := R) (xs := rws) (fun j H' => ∃ acc, Acc H6 D acc H' ∧ PRows H' acc (((sy.lpaths z).take j).map (i :: ·))) ⟨[], Acc.start hD, .nil⟩ (fun j H' _ ⟨_, q, _⟩ => SqL.of (q.1 _ _ e6)) ?_ ?_⟩
          · rintro j v9 H7 hv ⟨acc, a7, p7⟩
            have l7 := p7.len
            rw [List.length_map, List.length_take] at l7
            obtain ⟨b9, pt, hb, eb9, hl9⟩ : ∃ b9 pt, v9 = .ref b9 ∧ H7 b9 = some (.tup (pt.map nV)) ∧ (sy.lpaths z)[j]? = some pt := (p6.kp (.of a7.1)).at hv
            subst hb
            refine ⟨rfl, _, rfl, (by show 1 ≤ sizeLine; decide), fun t9 n9 => ?_⟩
            have s8 : Same H7 (upd H7 t9 (.tup [.int (i : Nat)])) := grow n9
            have e8 : (upd H7 t9 (.tup [.int (i : Nat)])) t9 = some (.tup [.int (i : Nat)]) := upd_same
            revert s8 e8
            generalize upd H7 t9 (.tup [.int (i : Nat)]) = H8
            intro s8 e8
            have line2 : (2000 : Nat) ≤ sizeLine := by decide
            have go : ∀ (b8 : Addr) (H9 : Hp), Same H7 H9 → H9 b8 = some (.tup ((i :: pt).map nV)) → ∃ acc', H9 D = some (.lst acc') ∧ acc'.length < sizeLine ∧ ∃ acc2, Acc H6 D acc2 (upd H9 D (.lst (acc' ++ [.ref b8]))) ∧ PRows (upd H9 D (.lst (acc' ++ [.ref b8]))) acc2 (((sy.lpaths z).take (j + 1)).map (i :: ·)) := by
              intro b8 H9 s9 e9
              have a9 := a7.on s9
              refine ⟨acc, a9.2.2, by omega, _, a9.put, ?_⟩
              rw [take_snoc hl9, List.map_append]
              exact ((p7.kp (.of s9)).app (.cons e9 .nil)).kp (.upd a9.2.2)
            have lpt : pt.length ≤ 1000 := by
              have := lpaths_deep sy z pt (List.mem_of_getElem? hl9)
              omega
            refine ⟨_, rfl, t9, b9, _, _, rfl, rfl, SqT.of e8, SqT.of (s8 _ _ eb9), ?_, (fun q => absurd q (List.cons_ne_nil _ _)), fun _ q => ?_, fun _ _ p9 np9 => ?_⟩
            · rw [List.length_map]
              show 1 + pt.length ≤ _
              omega
            · have q2 : pt = [] := by simpa using q
              exact go t9 H8 s8 (by rw [e8, q2]; rfl)
            · exact go p9 _ (s8.trans (grow np9)) (by rw [upd_same]; rfl)
          · rintro H7 ⟨acc, a7, p7⟩
            have z1 : (sy.lpaths z).take rws.length = sy.lpaths z := List.take_of_length_le (by rw [l6]; exact Nat.le_refl _)
            rw [z1] at p7
            have s47 := (s5.trans s6).trans a7.1
            have p4' := p4.kp (.of s47)
            have lp4 := p4'.len
            have lp7 := p7.len
            have lq2 := lpathsL_len (sh.subs.take i) 0 z
            have lq3 : (if (sh.kind == z) = true then [[]] else [] : List (List Nat)).length ≤ 1 := by split <;> simp
            rw [List.length_append] at lp4
            rw [List.length_map] at lp7
            refine ⟨l, D, rows, acc, rfl, rfl, s47 _ _ e4, a7.2.2, by omega, fun p9 np9 => ?_⟩
            refine ⟨_, _, p9, rows ++ acc, rfl, (s4.trans s47).trans (grow np9), upd_same, ?_⟩
            have e10 : (if (sh.kind == z) = true then [[]] else []) ++ lpathsL (sh.subs.take (i + 1)) 0 z = ((if (sh.kind == z) = true then [[]] else []) ++ lpathsL (sh.subs.take i) 0 z) ++ (sy.lpaths z).map (i :: ·) := by
              have li := (List.getElem?_eq_some_iff.mp hsy).1
              rw [take_snoc hsy, lpathsL_app, List.length_take, Nat.min_eq_left (by omega), List.append_assoc]
              simp only [lpathsL, List.append_nil, Nat.zero_add]
            rw [e10]
            exact (p4'.app p7).kp (.of (grow np9))
        · rintro σ H4 ⟨o1, o2, l, rows, rfl, s4, e4, p4⟩
          refine ⟨_, rfl, k l rows H4 (s03.trans s4) e4 ?_⟩
          rw [lpaths_subs]
          have z1 : sh.subs.take vs.length = sh.subs := List.take_of_length_le (by rw [rp.len]; exact Nat.le_refl _)
          rw [z1] at p4
          exact p4
theorem ok_pathsL {f : Addr} {fd : FuncData} (F : Fun K "_law_paths" "_law_paths" tPathsL f fd) (T : Txt mg) (henum : mg "enumerate" = none) (bF : Binds K fd ["_law_shape", "_law_word"] []) (gF : mg "_law_paths" = some (.ref f)) :
    ∀ n, FnOk P w K mg base CX0 (n + 1) f fd ["_law_shape", "_law_word"] (spPathsL (n + 1))
  | 0 => step_pathsL F T henum bF gF (fnok_false (j := 0)) fun h => absurd rfl h
  | n + 1 => step_pathsL F T henum bF gF (ok_pathsL F T henum bF gF n) fun _ => rfl
end
end K19
namespace K19
open PySem L2
open L2.My
theorem join_le (ys : List Str) : (Txt.join " " ys).length ≤ (ys.map (·.length)).sum + ys.length := by
  rw [show Txt.join " " ys = Str.join " " ys from StrLaws.glued_eq_join _ _]
  have h := StrLaws.join_length_le " " ys
  have e : ((" " : Str)).length = 1 := by decide +kernel
  rw [e] at h
  omega
mutual
theorem RSh.textLen {H : Hp} : ∀ {v : V} {s : Sh}, RSh H v s → s.text.length + 1 ≤ 300 * s.sz
  | _, _, .hole _ => by
    have e : ((Sh.hole.text)).length = 1 := by decide +kernel
    rw [e]
    decide
  | _, _, .load _ => by
    have e : ((Sh.load.text)).length = 1 := by decide +kernel
    rw [e]
    decide
  | _, .store s, .store _ q => by
    have h := q.textLen
    have e : (("= " : Str)).length = 2 := by decide +kernel
    simp only [Sh.text, Sh.sz]
    rw [Str.length_append, e]
    omega
  | _, .op z ps, .op _ l q => by
    have h := q.textsLen
    simp only [Sh.text, Sh.sz]
    have j := join_le ([z, ("(" : Str)] ++ textL ps ++ [(")" : Str)])
    have e1 : (("(" : Str)).length = 1 := by decide +kernel
    have e2 : ((")" : Str)).length = 1 := by decide +kernel
    simp only [List.map_append, List.map_cons, List.map_nil, List.sum_append, List.sum_cons, List.sum_nil, List.length_append, List.length_cons, List.length_nil, e1, e2] at j
    omega
theorem RShs.textsLen {H : Hp} : ∀ {vs : List V} {ps : List Sh}, RShs H vs ps → ((textL ps).map (·.length)).sum + (textL ps).length ≤ 300 * szs ps
  | _, _, .nil => by simp [textL]
  | _, _, .cons q r => by
    have h1 := q.textLen
    have h2 := r.textsLen
    simp only [textL, szs, List.map_cons, List.sum_cons, List.length_cons]
    omega
end
theorem textL_take {ps : List Sh} {i : Nat} {s : Sh} (h : ps[i]? = some s) : textL (ps.take (i + 1)) = textL (ps.take i) ++ [s.text] := by
  have e : ∀ a b : List Sh, textL (a ++ b) = textL a ++ textL b := by
    intro a
    induction a with
    | nil => intro b; simp [textL]
    | cons x r ih => intro b; simp only [List.cons_append, textL, ih]
  rw [take_snoc h, e]
  simp [textL]
theorem textL_len : ∀ ps : List Sh, (textL ps).length = ps.length
  | [] => rfl
  | s :: r => by simp only [textL, List.length_cons, textL_len r]
section
variable {P : Program} {w : World} {K : PySem.W.Frag} {mg : Str → Option Value} {base : Heap}
/-! ### _law_text -/
def spTextL (n : Nat) : Sp := fun vs H Q _ => ∃ v s, vs = [v] ∧ RSh H v s ∧ s.sz ≤ n ∧ s.sz ≤ 900 ∧ ∀ H', Same H H' → Q (.str s.text) H'
theorem scTextL : FnScope ["_law_shape", "_law_one_here"] ["_law_shape"] (defScope tTextL) := ⟨rfl, rfl, rfl, by decide +kernel, rfl, by decide +kernel, by decide +kernel⟩
theorem step_textL {n : Nat} {spR : Sp} {f : Addr} {fd : FuncData} (F : Fun K "_law_text" "_law_text" tTextL f fd) (bF : Binds K fd ["_law_shape"] []) (gF : mg "_law_text" = some (.ref f))
    (GR : FnOk P w K mg base CX0 n f fd ["_law_shape"] spR) (hR : n ≠ 0 → spR = spTextL n) :
    FnOk P w K mg base CX0 (n + 1) f fd ["_law_shape"] (spTextL (n + 1)) := by
  refine F.ok scTextL (fun vs H Q E h => ?_) (fun cdv A outer s H vs Q E hr h => ?_)
  · obtain ⟨v, s, rfl, _⟩ := h
    rfl
  · obtain ⟨v, sh, rfl, rs, hz, h9, k⟩ := h
    refine ⟨_, pss_cons (ps_if (pt_cmpR op_in_seq (pe_ix ix_tup (pv 0) pe_int (fun _ _ => rfl)) (pe_tup (pa_cons pe_str (pa_cons pe_str pa_nil))) (by rfl)) (pss_one (ps_ret (pe_ifExp (pt_cmpR op_eq (pe_ix ix_tup (pv 0) pe_int (fun _ _ => rfl)) pe_str (nomark _)) pe_str pe_str))) pss_nil)
      (pss_cons (ps_if (pt_cmpR op_eq (pe_ix ix_tup (pv 0) pe_int (fun _ _ => rfl)) pe_str (nomark _)) (pss_one (ps_ret (pe_op op_add_str pe_str (pe_call GR hr rfl gF F.kp bF .nil pass0 (pa_cons (pe_ix ix_tup (pv 0) pe_int (fun _ _ => rfl)) pa_nil))))) pss_nil)
      (pss_one (ps_ret (pe_join pe_str (pe_op op_cat (pe_op op_cat (pe_lst (pa_cons (pe_ix ix_tup (pv 0) pe_int (fun _ _ => rfl)) (pa_cons pe_str pa_nil)))
        (pe_lc (own := [("_law_one_here", 1)]) (g := gName 1) (tt := tYes) (by rfl) scTextL.nd (pi_tup (pe_slice sl_tupA (pv 0) (po_some pe_int) po_none)) (blkOk_by (own := [("_law_one_here", 1)]) (N := ["_law_shape", "_law_one_here"]) (sc := defScope tTextL) (by decide +kernel))
          (fun _ _ _ _ _ => pg_name (i := 1) scTextL.nd rfl (Or.inl rfl)) (fun _ _ _ _ _ => pts_nil) (fun _ _ _ _ _ => pe_call GR hr rfl gF F.kp bF .nil pass0 (pa_cons (pv 1) pa_nil)))) (pe_lst (pa_cons pe_str pa_nil))))))), ?_⟩
    have line : (300000 : Nat) ≤ sizeLine := by decide
    have recur : ∀ {s2 : Sh} {v2 : V} {H2 : Hp} {Q2 : VK}, RSh H2 v2 s2 → s2.sz ≤ n → s2.sz ≤ 900 → (∀ H', Same H2 H' → Q2 (.str s2.text) H') → spR [v2] H2 Q2 E0 := by
      intro s2 v2 H2 Q2 h1 h2 h3 h4
      have n0 : n ≠ 0 := by
        have := sz_pos s2
        omega
      rw [hR n0]
      exact ⟨v2, s2, rfl, h1, h2, h3, h4⟩
    obtain ⟨a, xs, rfl, ea⟩ := rs.open
    refine ⟨_, rfl, a, _, 0, _, rfl, rfl, SqT.of ea, atI_nat (j := 0) rfl, (by show 2 ≤ sizeLine; decide), fun t nt => ?_⟩
    have s1 := grow (o := .tup [.str "hole", .str "load"]) nt
    have e1 : (upd H t (.tup [.str "hole", .str "load"])) t = some (.tup [.str "hole", .str "load"]) := upd_same
    revert s1 e1
    generalize upd H t (.tup [.str "hole", .str "load"]) = H1
    intro s1 e1
    have ea1 := s1 _ _ ea
    refine ⟨t, _, rfl, .inr (SqT.of e1), rfl, rfl, _, rfl, ?_⟩
    cases rs with
    | hole e => exact iteT ⟨_, rfl, a, _, 0, _, rfl, rfl, SqT.of ea1, atI_nat (j := 0) rfl, rfl, _, rfl, iteT (k _ s1)⟩
    | load e => exact iteT ⟨_, rfl, a, _, 0, _, rfl, rfl, SqT.of ea1, atI_nat (j := 0) rfl, rfl, _, rfl, iteF (k _ s1)⟩
    | @store _ v2 s2 e q =>
      rw [ea] at e
      cases e
      simp only [Sh.sz] at hz h9
      refine iteF ⟨_, rfl, a, _, 0, _, rfl, rfl, SqT.of ea1, atI_nat (j := 0) rfl, rfl, _, rfl, iteT ?_⟩
      refine ⟨_, rfl, a, _, 1, _, rfl, rfl, SqT.of ea1, atI_nat (j := 1) rfl, ?_⟩
      refine recur (q.on s1) (by omega) (by omega) fun H2 s2 => ?_
      have tl := q.textLen
      have e : (("= " : Str)).length = 2 := by decide +kernel
      refine ⟨_, _, rfl, rfl, by omega, ?_⟩
      have := k _ (s1.trans s2)
      rw [Sh.text] at this
      exact this
    | @op _ z vs ps e l q =>
      rw [ea] at e
      cases e
      simp only [Sh.sz] at hz h9
      refine iteF ⟨_, rfl, a, _, 0, _, rfl, rfl, SqT.of ea1, atI_nat (j := 0) rfl, rfl, _, rfl, iteF ?_⟩
      refine ⟨⟨_, rfl⟩, _, rfl, a, _, 1, _, rfl, rfl, SqT.of ea1, atI_nat (j := 1) rfl, (by show 2 ≤ sizeLine; decide), fun l1 nl1 => ?_⟩
      have s2 := grow (o := .lst [.str z, .str "("]) nl1
      have e2 : (upd H1 l1 (.lst [.str z, .str "("])) l1 = some (.lst [.str z, .str "("]) := upd_same
      revert s2 e2
      generalize upd H1 l1 (.lst [.str z, .str "("]) = H2
      intro s2 e2
      refine ⟨_, rfl, _, rfl, ?_⟩
      unfold tNoPart
      refine sl_go (s2 _ _ ea1) fun p H3 s3 e3 => ?_
      rw [cut2] at e3
      have s03 := (s1.trans s2).trans s3
      have q3 := q.on s03
      have lps := szs_len ps
      refine ⟨p, rfl, ⟨_, SqT.of e3⟩, fun D hD => lc_tup (xs := vs) (fun i H' => Acc H3 D ((textL (ps.take i)).map V.str) H') (by simpa [textL] using Acc.start hD) (fun i H' _ a => SqT.of (a.1 _ _ e3)) ?_ ?_⟩
      · intro i y H4 hy a4
        obtain ⟨sy, hsy, ry⟩ := q3.at hy
        have szy := szs_at hsy
        refine ⟨rfl, _, rfl, recur (ry.on a4.1) (by omega) (by omega) fun H5 s5 => ?_⟩
        have a5 := a4.on s5
        refine ⟨_, a5.2.2, ?_, ?_⟩
        · rw [List.length_map, textL_len, List.length_take]
          omega
        · rw [textL_take hsy, List.map_append]
          exact a5.put
      · intro H4 a4
        rw [q3.len, List.take_length] at a4
        have tl := q.textsLen
        refine ⟨l1, D, _, _, rfl, rfl, a4.1 _ _ (s3 _ _ e2), a4.2.2, ?_, fun p5 np5 => ?_⟩
        · simp only [List.length_cons, List.length_nil, List.length_map, textL_len]
          omega
        have s5 := grow (o := .lst ([.str z, .str "("] ++ (textL ps).map V.str)) np5
        refine ⟨(by show 1 ≤ sizeLine; decide), fun p6 np6 => ?_⟩
        have s6 := grow (o := .lst [.str ")"]) np6
        refine ⟨p5, p6, _, _, rfl, rfl, s6 _ _ upd_same, upd_same, ?_, fun p7 np7 => ?_⟩
        · simp only [List.length_cons, List.length_nil, List.length_map, List.length_append, textL_len]
          omega
        have s7 := grow (o := .lst ([.str z, .str "("] ++ (textL ps).map V.str ++ [.str ")"])) np7
        refine ⟨_, p7, [z, ("(" : Str)] ++ textL ps ++ [(")" : Str)], rfl, rfl, .inl (SqL.of ?_), ?_, ?_⟩
        · rw [upd_same]
          simp
        · have e1 : (("(" : Str)).length = 1 := by decide +kernel
          have e2 : ((")" : Str)).length = 1 := by decide +kernel
          have e3 : ((" " : Str)).length = 1 := by decide +kernel
          simp only [List.map_append, List.map_cons, List.map_nil, List.sum_append, List.sum_cons, List.sum_nil, List.length_append, List.length_cons, List.length_nil, e1, e2, e3]
          omega
        · have := k _ ((((s03.trans a4.1).trans s5).trans s6).trans s7)
          rw [Sh.text] at this
          exact this
theorem ok_textL {f : Addr} {fd : FuncData} (F : Fun K "_law_text" "_law_text" tTextL f fd) (bF : Binds K fd ["_law_shape"] []) (gF : mg "_law_text" = some (.ref f)) :
    ∀ n, FnOk P w K mg base CX0 (n + 1) f fd ["_law_shape"] (spTextL (n + 1))
  | 0 => step_textL F bF gF (fnok_false (j := 0)) fun h => absurd rfl h
  | n + 1 => step_textL F bF gF (ok_textL F bF gF n) fun _ => rfl
end
end K19
/-! try: body, several clauses, some «except C as n» (all with one name n), some «except C» -/
namespace L2.My
open PySem PySem.Spec PyProof.Rows
structure Mixed where
  cls : Value
  asN : Bool
  run : Suite
/-- what the clauses wish: the first one that takes it runs its suite -/
def wishM (K : PySem.W.Frag) (i : Nat) (out : WX) (D : Ends) : List Mixed → WX
  | [] => out
  | k :: r => fun c d σ H => ∃ b, PySem.W.exmOne K c k.cls = some b ∧
      (b = true → ∀ a, H a = none → (k.asN = true → k.run a c d (clr i D) (σ.set i (some (.ref a))) H) ∧ (k.asN = false → k.run a c d D σ H)) ∧
      (b = false → wishM K i out D r c d σ H)
inductive MixOk (X : Cx) (n : Str) : List ExceptHandler → List Mixed → Prop
  | nil : MixOk X n [] []
  | cons {x : Str} {c : Value} {ts : Suite} {b0 : Stmt} {bs : List Stmt} {q1 q2 : Pos} {hs : List ExceptHandler} {l : List Mixed}
      (named : Names X x c)
      (body : ∀ (a : Addr) (o : Obj) (k : Value) (d : Option Addr) (pn : List (Addr × Obj)), Zc k d o → (∃ v, o.data = .fields v) →
        PSs (X.suite a ((a, o) :: pn)) (b0 :: bs) (ts a k d))
      (more : MixOk X n hs l) :
      MixOk X n (.ExceptHandler (some (.Name x q1)) (some n) (b0 :: bs) q2 :: hs) (⟨c, true, ts⟩ :: l)
  | plain {x : Str} {c : Value} {ts : Suite} {b0 : Stmt} {bs : List Stmt} {q1 q2 : Pos} {hs : List ExceptHandler} {l : List Mixed}
      (named : Names X x c)
      (body : ∀ (a : Addr) (o : Obj) (k : Value) (d : Option Addr) (pn : List (Addr × Obj)), Zc k d o → (∃ v, o.data = .fields v) →
        PSs (X.suite a ((a, o) :: pn)) (b0 :: bs) (ts a k d))
      (more : MixOk X n hs l) :
      MixOk X n (.ExceptHandler (some (.Name x q1)) none (b0 :: bs) q2 :: hs) (⟨c, false, ts⟩ :: l)
section
variable {X : Cx} {n : Str} {i : Nat} {out : WX} {pins : List (Addr × Obj)} {σ : St} {H : Hp} {D : Ends}
theorem Down.mixed (st : X.stack = X.env :: X.outer) (fr : X.env.frame = some X.env.locals) (nd : X.N.Nodup) (hi : X.N[i]? = some n) (loc : X.env.kindOf n = some .local) (tk : Takes X out)
    {a : Addr} {B : Heap} {c : Value} {d : Option Addr} {sI t : Shared} (w : Down X pins σ H a B c d sI t) {hs : List ExceptHandler} {l : List Mixed} (k : MixOk X n hs l) :
    wishM X.K i out D l c d σ H → wpAny (model X.prog X.w) X.A (handleBy (.ref a) X.env hs) (SP X pins D) X.xe t := by
  induction k with
  | nil => exact fun q => w.pass st fr tk q
  | @cons x cc ts b0 bs q1 q2 hs l named body more ih =>
    rintro ⟨b, eb, yes, no⟩
    obtain ⟨o, eo, z, _, S, kin⟩ := w.held fr
    have ty : PySem.W.Looks (model X.prog X.w) t.heap (typeOf (.ref a)) c :=
      fun _ _ _ _ k2 q => wpAny_typeOf_ref (k2 _ _ eo) (by rw [z.1]; exact q)
    have said := PySem.W.exm_one (M := model X.prog X.w) kin ty eb
    have ask : ∀ {Q E : Value → Shared → Prop}, Q cc t →
        wpAny (model X.prog X.w) (X.A.mark (some (.ref a))) (eval (.Name x q1) X.env) Q E t := by
      intro Q E q
      rcases named with ⟨gl, db, mine | ⟨no1, bt, no2⟩⟩
      · exact ld_glob S gl mine q db
      · exact ld_blt S gl no1 bt q no2 db
    refine wpAny_handleBy_cons (codeAny_handlers_test (ask (said.here ?_))) (by intro q; cases q)
    cases b with
    | false =>
      show wpAny _ X.A (handleBy (.ref a) X.env hs) _ _ _
      exact ih (no rfl)
    | true =>
      refine codeAny_handlers_suite_as (HandSPX.lands_againZ w.fl fun h2 f2 u2 => ?_)
      obtain ⟨o2, eo2, z2, dv2, S2, _⟩ := (w.on f2 u2).held fr
      have ok := w.inv.ok
      refine store_ok (X := X.suite a ((a, o2) :: (X.pn ++ pins))) (v := .ref a) S2 nd hi (.inl loc) rfl (fun s5 S5 => ?_) (.inr loc)
      refine wpAny_mono ((body a o2 c d (X.pn ++ pins) z2 dv2).run [] s5 _ H _ S5 ((yes rfl a w.nil).1 rfl)) ?_ (fun _ _ e => e.elim)
      intro f s6 r
      have away : ∀ {σ6 : St} {H6 : Hp} {Q : Shared → Prop}, Inv (X.suite a ((a, o2) :: (X.pn ++ pins))) [] σ6 H6 s6 →
          (∀ s7, Inv X pins (σ6.set i none) H6 s7 → Q s7) →
          wpAny (model X.prog X.w) X.A (do bindName X.env n .none; unbindBehindTheSuite X.env n q2) (fun _ s7 => Q s7) X.xe s6 :=
        fun S6 q => gone_ok (S6.unsuite ok) nd hi loc q
      cases f with
      | ret u => obtain ⟨v6, σ6, H6, S6, r6, q6⟩ := r; exact away S6 fun _ J => ⟨_, _, _, J, r6, q6⟩
      | next => obtain ⟨σ6, H6, S6, q6⟩ := r; exact away S6 fun _ J => ⟨_, _, J, q6⟩
      | cont => obtain ⟨σ6, H6, S6, q6⟩ := r; exact away S6 fun _ J => ⟨_, _, J, q6⟩
      | brk => obtain ⟨σ6, H6, S6, q6⟩ := r; exact away S6 fun _ J => ⟨_, _, J, q6⟩
  | @plain x cc ts b0 bs q1 q2 hs l named body more ih =>
    rintro ⟨b, eb, yes, no⟩
    obtain ⟨o, eo, z, _, S, kin⟩ := w.held fr
    have ty : PySem.W.Looks (model X.prog X.w) t.heap (typeOf (.ref a)) c :=
      fun _ _ _ _ k2 q => wpAny_typeOf_ref (k2 _ _ eo) (by rw [z.1]; exact q)
    have said := PySem.W.exm_one (M := model X.prog X.w) kin ty eb
    have ask : ∀ {Q E : Value → Shared → Prop}, Q cc t →
        wpAny (model X.prog X.w) (X.A.mark (some (.ref a))) (eval (.Name x q1) X.env) Q E t := by
      intro Q E q
      rcases named with ⟨gl, db, mine | ⟨no1, bt, no2⟩⟩
      · exact ld_glob S gl mine q db
      · exact ld_blt S gl no1 bt q no2 db
    refine wpAny_handleBy_cons (codeAny_handlers_test (ask (said.here ?_))) (by intro q; cases q)
    cases b with
    | false =>
      show wpAny _ X.A (handleBy (.ref a) X.env hs) _ _ _
      exact ih (no rfl)
    | true =>
      refine codeAny_handlers_suite (HandSPX.lands_againZ w.fl fun h2 f2 u2 => ?_)
      obtain ⟨o2, eo2, z2, dv2, S2, _⟩ := (w.on f2 u2).held fr
      have ok := w.inv.ok
      refine wpAny_mono ((body a o2 c d (X.pn ++ pins) z2 dv2).run [] _ σ H _ S2 ((yes rfl a w.nil).2 rfl)) (fun f s6 r => ?_) (fun _ _ e => e.elim)
      cases f with
      | ret u => obtain ⟨v6, σ6, H6, S6, r6, q6⟩ := r; exact ⟨_, _, _, S6.unsuite ok, r6, q6⟩
      | next => obtain ⟨σ6, H6, S6, q6⟩ := r; exact ⟨_, _, S6.unsuite ok, q6⟩
      | cont => obtain ⟨σ6, H6, S6, q6⟩ := r; exact ⟨_, _, S6.unsuite ok, q6⟩
      | brk => obtain ⟨σ6, H6, S6, q6⟩ := r; exact ⟨_, _, S6.unsuite ok, q6⟩
theorem ps_try_mixed {body : List Stmt} {h0 : ExceptHandler} {hs : List ExceptHandler} {l : List Mixed} {tb : WX → TS} {pos : Pos}
    (st : X.stack = X.env :: X.outer) (fr : X.env.frame = some X.env.locals) (nd : X.N.Nodup) (hi : X.N[i]? = some n) (loc : X.env.kindOf n = some .local) (tk : Takes X out)
    (hb : ∀ (W : WX) (pn : List (Addr × Obj)) (xe : Value → Shared → Prop), Takes (X.tr pn xe) W → PassesOwn (model X.prog X.w) X.A X.env xe → PSs (X.tr pn xe) body (tb W))
    (k : MixOk X n (h0 :: hs) l) : PS X (.Try body (h0 :: hs) [] [] pos) (fun D σ H => tb (wishM X.K i out D l) D σ H) := by
  refine ⟨fun pins s σ H D I h => wpAny_Try_except ?_⟩
  have ok := I.ok
  have frames : X.A.frames = some (X.env :: X.outer) := ok.frames.trans (congrArg some st)
  obtain ⟨xe, exe⟩ : ∃ xe : Value → Shared → Prop, xe = fun e s1 => wpAny (model X.prog X.w) X.A (noteFrame e X.env)
      (fun _ s2 => wpAny (model X.prog X.w) X.A (setFlight e none) (fun _ s3 => wpAny (model X.prog X.w) X.A (handleBy e X.env (h0 :: hs)) (SP X pins D) X.xe s3) X.xe s2) X.xe s1 := ⟨_, rfl⟩
  have caught : Takes (X.tr (X.pn ++ pins) xe) (wishM X.K i out D l) := by
    rintro u s1 ⟨a, B, sI, pins1, σ1, H1, c, d, rfl, J, gr, up, sky, na, os, ag, q⟩
    show xe (.ref a) s1
    rw [exe]
    have sky1 : Sky B (X.env :: X.outer) a (Zc c d) X.env.locals s1.heap := st ▸ sky
    refine Sky.land Zc.steady frames fr sky1 fun h3 f3 u3 => ?_
    have w : Down X pins σ1 H1 a B c d sI { s1 with heap := h3 } := ⟨J.ofTry ok, gr, up.trans u3, f3, na, os, ag⟩
    exact w.mixed st fr nd hi loc tk k q
  have own : PassesOwn (model X.prog X.w) X.A X.env xe := by
    rw [exe]
    exact PassesOwn.looking
  refine wpAny_mono ((hb _ (X.pn ++ pins) xe caught own).run [] s σ H D (I.toTry _) h) ?_ ?_
  · intro f s1 r
    cases f with
    | ret u => obtain ⟨v, σ1, H1, J, r1, q⟩ := r; exact ⟨v, σ1, H1, J.ofTry ok, r1, q⟩
    | next => obtain ⟨σ1, H1, J, q⟩ := r; exact wpAny_execs_nil ⟨σ1, H1, J.ofTry ok, q⟩
    | cont => obtain ⟨σ1, H1, J, q⟩ := r; exact ⟨σ1, H1, J.ofTry ok, q⟩
    | brk => obtain ⟨σ1, H1, J, q⟩ := r; exact ⟨σ1, H1, J.ofTry ok, q⟩
  · intro e s1 he
    have he' : xe e s1 := he
    rw [exe] at he'
    exact he'
end
end L2.My
namespace K19
open PySem L2
open L2.My
open PySem.Spec PyProof.Rows in
/-- repr of None, True, False -/
theorem call_reprNB {X : Cx} : CallR X (.builtin "repr") (fun xs H Q => (xs = [.non] ∧ Q (.str (PyData.none).shown) H) ∨ ∃ b, xs = [.bl b] ∧ Q (.str (PyData.bool b).shown) H) := by
  intro pins s σ H xs us Q I r h
  rcases h with ⟨rfl, q⟩ | ⟨b, rfl, q⟩
  · obtain ⟨u, rfl, ru⟩ : ∃ u, us = [u] ∧ RelV .non u := by
      cases r with
      | cons ra rn =>
        cases rn
        exact ⟨_, rfl, ra⟩
    cases ru
    exact PySem.P.repr_of_none ⟨.str _, H, I.tok _, ⟨_, rfl⟩, q⟩
  · obtain ⟨u, rfl, ru⟩ : ∃ u, us = [u] ∧ RelV (.bl b) u := by
      cases r with
      | cons ra rn =>
        cases rn
        exact ⟨_, rfl, ra⟩
    cases ru
    exact PySem.P.repr_of_bool ⟨.str _, H, I.tok _, ⟨_, rfl⟩, q⟩
/-- the errors of the law's word -/
structure Trio (K : PySem.W.Frag) (CP CT CA : Addr) : Prop where
  pp : PySem.W.exmOne K (.ref CP) (.ref CP) = some true
  tp : PySem.W.exmOne K (.ref CT) (.ref CP) = some false
  tt : PySem.W.exmOne K (.ref CT) (.ref CT) = some true
  ap : PySem.W.exmOne K (.ref CA) (.ref CP) = some false
  at_ : PySem.W.exmOne K (.ref CA) (.ref CT) = some false
  aa : PySem.W.exmOne K (.ref CA) (.ref CA) = some true
/-- what the law's word makes of an error -/
def WordE (CP CT CA : Addr) (Q : VK) : XK := fun cls d H' =>
  (cls = .ref CP ∧ ∃ dd, d = some dd ∧ H' dd = some (.xd [(("line" : Str), .non)]) ∧ Q (.str "parse None") H') ∨ (cls = .ref CT ∧ Q (.str "tree") H') ∨ (cls = .ref CA ∧ Q (.str "argument") H')
def TTW (CP CT CA : Addr) : (XK → Hp → VK → Prop) → Hp → VK → Prop := fun tl H Q => tl (WordE CP CT CA Q) H Q
theorem scTold : FnScope ["_law_call", "e"] ["_law_call"] (defScope tTold) := ⟨rfl, rfl, rfl, by decide +kernel, rfl, by decide +kernel, by decide +kernel⟩
theorem word_gives {X : Cx} {CP CT CA fP g : Addr} {cdg : Value} {q : Str} (R : ParC X.K X.mg CP fP) (RT : ErrV X.K X.mg "InvalidTree" CT) (RA : ErrV X.K X.mg "InvalidArgument" CA) (E3 : Trio X.K CP CT CA) (hrp : X.mg "repr" = none) :
    LamX.GivesTo X ["_law_call", "e"] "_law_told" (defScope tTold) g cdg (defBody tTold) "_law_call" q (TTW CP CT CA) := by
  intro f c' s H Q tl act hc h
  have br : PySem.bootBuiltins "repr" = some (.builtin "repr") := by decide +kernel
  refine ⟨_, pss_one (ps_try_mixed (X := (cxOf C8.CX0 X.prog X.w X.K X.mg X.base ["_law_call", "e"] "_law_told" (defScope tTold) g cdg X.A X.stack s H C8.E0).nox) (n := "e") (i := 1)
      (tb := fun W D σ H => ∃ Ech : XK, (∀ cls d σ' H', σ'.length = 2 → Ech cls d H' → W cls d σ' H') ∧ σ[0]? = some (some (.ref f)) ∧ H c' = some (LamX.CodeO c' q) ∧ tl Ech H D.rt) rfl rfl scTold.nd rfl rfl LamX.takes0
      (fun W pn xe tk _ => ?_) (.cons ⟨rfl, by decide, .inl R.gl⟩ (fun a oe cls d pn hz hf => pss_one (ps_ret (pe_op op_add_str pe_str (pe_callB call_reprNB (by rfl) hrp br (pa_cons (Own_line.pe_ofErr R hz hf (pv 1)) pa_nil)))))
        (.plain ⟨rfl, by decide, .inl RT.g⟩ (fun a oe cls d pn hz hf => pss_one (ps_ret pe_str)) (.plain ⟨rfl, by decide, .inl RA.g⟩ (fun a oe cls d pn hz hf => pss_one (ps_ret pe_str)) .nil)))), ?_⟩
  · refine ⟨fun pins s' σ H' D I h' => ?_⟩
    obtain ⟨Ech, hW, h1, h2, h3⟩ := h'
    have tk2 : Takes ((cxOf C8.CX0 X.prog X.w X.K X.mg X.base ["_law_call", "e"] "_law_told" (defScope tTold) g cdg X.A X.stack s H C8.E0).nox.tr pn xe) (fun cls d σ' H' => σ'.length = 2 → W cls d σ' H') := by
      rintro u s1 ⟨a, B, sI, pins1, σ1, H1, c, d, rfl, J, gr, up, sky, na, os, ag, q⟩
      exact tk _ _ ⟨a, B, sI, pins1, σ1, H1, c, d, rfl, J, gr, up, sky, na, os, ag, q J.len⟩
    exact (pss_one (ps_ret (act _ pn xe Ech _ _ tk2 (fun cls d σ' H' e l => hW cls d σ' H' l e)))).run pins s' σ H' D I ⟨h1, h2, h3⟩
  · refine ⟨_, fun cls d σ' H' hl hE => ?_, rfl, hc, h⟩
    match σ', hl with
    | [x0, x1], _ =>
    rcases hE with ⟨rfl, dd, rfl, hd, hq⟩ | ⟨rfl, hq⟩ | ⟨rfl, hq⟩
    · refine ⟨true, E3.pp, fun _ e ne => ⟨fun _ => ?_, fun z => Bool.noConfusion z⟩, fun z => Bool.noConfusion z⟩
      refine ⟨_, rfl, rfl, rfl, dd, .non, rfl, hd, .inl ⟨rfl, "parse ", _, rfl, rfl, by decide +kernel, ?_⟩⟩
      have z : (("parse " : Str) ++ (PyData.none).shown) = "parse None" := by decide +kernel
      rw [z]
      exact hq
    · refine ⟨false, E3.tp, (fun z => Bool.noConfusion z), fun _ => ⟨true, E3.tt, fun _ e ne => ⟨(fun z => Bool.noConfusion z), fun _ => hq⟩, fun z => Bool.noConfusion z⟩⟩
    · refine ⟨false, E3.ap, (fun z => Bool.noConfusion z), fun _ => ⟨false, E3.at_, (fun z => Bool.noConfusion z), fun _ => ⟨true, E3.aa, fun _ e ne => ⟨(fun z => Bool.noConfusion z), fun _ => hq⟩, fun z => Bool.noConfusion z⟩⟩⟩
end K19
namespace K19
open PySem L2
open L2.My
def ButN (p : Addr) (H H' : Hp) : Prop := ∀ q, q ≠ p → ∀ o, H q = some o → (∀ ps, o ≠ .tbl ps) → H' q = some o
theorem ButN.of {p : Addr} {H H' : Hp} (u : But p H H') : ButN p H H' := fun q hq o e _ => u q hq o e
theorem ButN.ext {p : Addr} {H H' : Hp} (u : LamX.ExtN H H') : ButN p H H' := fun q _ o e n => u q o e n
theorem ButN.trans {p : Addr} {H H1 H2 : Hp} (a : ButN p H H1) (b : ButN p H1 H2) : ButN p H H2 := fun q hq o e n => b q hq o (a q hq o e n) n
theorem Kp.ext {H H' : Hp} (u : LamX.ExtN H H') : Kp H H' := ⟨fun a xs e => u a _ e (fun ps z => by cases z), fun a ⟨xs, e⟩ => ⟨xs, u a _ e (fun ps z => by cases z)⟩, fun a kvs e => u a _ e (fun ps z => by cases z)⟩
theorem Urn.ext {H H' : Hp} {p : Addr} (l : Urn H p) (u : LamX.ExtN H H') : Urn H' p := by
  obtain ⟨a, b, c, e, r⟩ := l
  exact ⟨a, b, c, u _ _ e (fun ps z => by cases z), r⟩
theorem tabs_but {T : List (Addr × Str)} {H H' : Hp} {p : Addr} (t : LamX.Tabs T H) (u : But p H H') (l : IsL H p) : LamX.Tabs T H' := by
  obtain ⟨ys, ep⟩ := l
  intro x hx
  obtain ⟨ps, h1, h2, h3⟩ := t x hx
  refine ⟨ps, u _ (fun z => by rw [z, ep] at h1; cases h1) _ h1, h2, fun pos cv hc => ?_⟩
  obtain ⟨c, e1, e2⟩ := h3 pos cv hc
  refine ⟨c, e1, u _ (fun z => ?_) _ e2⟩
  rw [z, ep] at e2
  have e3 := Option.some.inj e2
  unfold LamX.CodeO at e3
  cases e3
theorem fnok_ex {P : Program} {w : World} {K : PySem.W.Frag} {mg : Str → Option Value} {base : Heap} {f : Addr} {fd : FuncData} {ps : List Str} {k : Nat} {kk : Nat → Nat} {sp : Nat → Sp} {m : Nat} (F : ∀ n, FnOk P w K mg base CX0 (kk n) f fd ps (sp n)) (h : ∀ n, n ≤ m → kk n ≤ k) :
    FnOk P w K mg base CX0 k f fd ps fun vs H Q E => ∃ n, n ≤ m ∧ sp n vs H Q E := by
  refine ⟨fun vs H Q E ⟨n, _, q⟩ => (F n).len vs H Q E q, fun A outer s H args us vs Q E hr e0 hb r ⟨n, hn, q⟩ => ?_⟩
  exact (F n).run A outer s H args us vs Q E (hr.mono (h n hn)) e0 hb r q
section
variable {P : Program} {w : World} {K : PySem.W.Frag} {mg : Str → Option Value} {base : Heap}
/-- a def whose code object is known -/
structure FunC (K : PySem.W.Frag) (x : Str) (st : Stmt) (f : Addr) (fd : FuncData) (c : Addr) : Prop where
  ex : ∃ (oc : Value) (od : Option Addr) (kV doc pm : Value) (an : Option Addr) (ct : Value) (osl : Array (Option Value)),
    fd = PySem.W.fnOf x x (defArgs st) (defBody st) (defScope st) .none kV doc pm an (.ref c) ct ∧ K.lookup f = some ⟨oc, od, .func fd, osl⟩ ∧ PySem.W.codeIn K (.ref c) x = true
  kp : PySem.W.keepIn K (.ref f) = true
theorem FunC.okG {x : Str} {st : Stmt} {f c : Addr} {fd : FuncData} {N ps : List Str} {k : Nat} {sp : Sp} (F : FunC K x st f fd c) (S : FnScope N ps (defScope st)) (len : ∀ vs H Q E, sp vs H Q E → vs.length = ps.length)
    (hbody : ∀ (A : Around) (outer : List Env) (s : Shared) (H : Hp) (vs : List V) (Q : VK) (E : XK), Room k (A.deeper (PyProof.Rows.envOfC x (defScope st) s.heap.objs.size f (.ref c))) → A.guards = some [] → sp vs H Q E →
      ∃ t, PSs (cxOf CX0 P w K mg base N x (defScope st) f (.ref c) A outer s H E).nox (defBody st) t ∧ t { nx := fun _ H' => Q .non H', rt := Q } (start N vs) H) : FnG P w K mg base (k + 1) f fd ps sp := by
  obtain ⟨oc, od, kV, doc, pm, an, ct, osl, rfl, lk, hcd⟩ := F.ex
  refine ⟨len, fun A outer s H args us vs Q E hr hg e0 hb r h => ?_⟩
  refine LamX.run_ofS lk hcd S hr e0 hb r (len _ _ _ _ h) fun hr' => ?_
  obtain ⟨t, ht, q⟩ := hbody A outer s H vs Q E hr' hg h
  exact ⟨t, ht.nox, q⟩
theorem FunC.fn {x : Str} {st : Stmt} {f c : Addr} {fd : FuncData} (F : FunC K x st f fd c) : Fun K x x st f fd := by
  obtain ⟨oc, od, kV, doc, pm, an, ct, osl, h⟩ := F.ex
  exact ⟨⟨oc, od, kV, doc, pm, an, _, ct, osl, h⟩, F.kp⟩
end
theorem seqL_ext {K : PySem.W.Frag} {H H' : Hp} {a : Addr} {xs : List V} (h : SqL K H a xs) (u : LamX.ExtN H H') : SqL K H' a xs := by
  rcases h with (h | ⟨o, h⟩) | h
  · exact .inl (.inl (u _ _ h (fun ps z => by cases z)))
  · exact .inl (.inr ⟨o, u _ _ h (fun ps z => by cases z)⟩)
  · exact .inr h
theorem seqT_ext {K : PySem.W.Frag} {H H' : Hp} {a : Addr} {xs : List V} (h : SqT K H a xs) (u : LamX.ExtN H H') : SqT K H' a xs := by
  rcases h with (h | ⟨o, h⟩) | h
  · exact .inl (.inl (u _ _ h (fun ps z => by cases z)))
  · exact .inl (.inr ⟨o, u _ _ h (fun ps z => by cases z)⟩)
  · exact .inr h
mutual
theorem dp_ext {K : PySem.W.Frag} {H H' : Hp} (s : LamX.ExtN H H') : ∀ {v : V} {d : PyData}, Dp K H v d → Dp K H' v d
  | _, _, .non => .non
  | _, _, .bl b => .bl b
  | _, _, .int i => .int i
  | _, _, .str x => .str x
  | _, _, .lst h r => .lst (seqL_ext h s) (dpAll_ext s r)
  | _, _, .tup h r => .tup (seqT_ext h s) (dpAll_ext s r)
theorem dpAll_ext {K : PySem.W.Frag} {H H' : Hp} (s : LamX.ExtN H H') : ∀ {vs : List V} {ds : List PyData}, DpAll K H vs ds → DpAll K H' vs ds
  | _, _, .nil => .nil
  | _, _, .cons h r => .cons (dp_ext s h) (dpAll_ext s r)
end

mutual
theorem RSh.ext {H H' : Hp} (u : LamX.ExtN H H') {v : V} {s : Sh} (h : RSh H v s) : RSh H' v s := h.kp (.ext u)
end
theorem fnok_up {P : Program} {w : World} {K : PySem.W.Frag} {mg : Str → Option Value} {base : Heap} {CX : CXT} {f : Addr} {fd : FuncData} {ps : List Str} {j k : Nat} {sp : Sp} (F : FnOk P w K mg base CX j f fd ps sp) (h : j ≤ k) : FnOk P w K mg base CX k f fd ps sp :=
  ⟨F.len, fun A outer s H args us vs Q E hr e0 hb r q => F.run A outer s H args us vs Q E (hr.mono h) e0 hb r q⟩
theorem Dn.up {P : Program} {w : World} {K : PySem.W.Frag} {mg : Str → Option Value} {base : Heap} {CX : CXT} {x : Str} {ps : List Str} {j k : Nat} {sp : Sp} {f : Addr} {fd : FuncData} (D : Dn P w K mg base CX x ps j sp f fd) (h : j ≤ k) : Dn P w K mg base CX x ps k sp f fd :=
  ⟨fnok_up D.G h, D.kp, D.b, D.g⟩
/-! ### what is known of the law's shapes and words -/
def factS (s : Sh) : Bool := decide (s.sz ≤ 9) && (decide (s.signs.length ≤ 10) && (s.signs.all (fun x => PyData.strOk x && decide (x.length ≤ 5)) && (SeqAt.shaped s.data &&
  (SeqAt.shaped (.tuple ((s.pathsOf "hole").map pathD)) && (SeqAt.shaped (.tuple ((s.pathsOf "load").map pathD)) && (match readT s.text with
    | none => false
    | some r => SeqAt.shaped r.data))))))
theorem facts : (shapesS.all factS) = true := by decide +kernel
theorem picks : (pickW.all fun x => PyData.strOk x && decide (x.length ≤ 5)) = true := by decide +kernel
theorem joinOk : ∀ {ys : List Str}, (∀ x ∈ ys, PyData.strOk x = true) → PyData.strOk (Str.join " " ys) = true
  | [], _ => by decide +kernel
  | [y], h => h y (List.mem_singleton.mpr rfl)
  | y :: z :: r, h => by
    have e : Str.join " " (y :: z :: r) = y ++ " " ++ Str.join " " (z :: r) := rfl
    rw [e]
    have ok : PyData.strOk (y ++ " " ++ Str.join " " (z :: r)) = (PyData.strOk y && PyData.strOk " " && PyData.strOk (Str.join " " (z :: r))) := by
      show Array.all (y.cps ++ (" " : Str).cps ++ (Str.join " " (z :: r)).cps) _ = _
      rw [Array.all_append, Array.all_append]
      rfl
    rw [ok, h y (List.mem_cons_self ..), joinOk fun x hx => h x (List.mem_cons_of_mem _ hx)]
    decide +kernel
theorem near_text {ws : List Str} (l : ws.length ≤ 12) (h : ∀ x ∈ ws, PyData.strOk x = true ∧ x.length ≤ 5) : TextOk (Txt.join " " ws) ∧ (ws.map (·.length)).sum ≤ 5 * ws.length := by
  have s : ∀ ys : List Str, (∀ x ∈ ys, x.length ≤ 5) → (ys.map (·.length)).sum ≤ 5 * ys.length := by
    intro ys
    induction ys with
    | nil => intro _; simp
    | cons y r ih =>
      intro h
      have h1 := h y (List.mem_cons_self ..)
      have h2 := ih fun x hx => h x (List.mem_cons_of_mem _ hx)
      simp only [List.map_cons, List.sum_cons, List.length_cons]
      omega
  have h1 := s ws fun x hx => (h x hx).2
  refine ⟨⟨?_, ?_⟩, h1⟩
  · rw [show Txt.join " " ws = Str.join " " ws from StrLaws.glued_eq_join _ _]
    exact joinOk fun x hx => (h x hx).1
  · have := join_le ws
    omega
structure Known (s : Sh) : Prop where
  ok : s.ok = true
  sz : s.sz ≤ 9
  many : s.signs.length ≤ 10
  words : ∀ x ∈ s.signs, PyData.strOk x = true ∧ x.length ≤ 5
  dat : SeqAt.shaped s.data = true
  holes : s.pathsOf "hole" = s.lpaths "hole"
  loads : s.pathsOf "load" = s.lpaths "load"
  hd : SeqAt.shaped (.tuple ((s.pathsOf "hole").map pathD)) = true
  ld : SeqAt.shaped (.tuple ((s.pathsOf "load").map pathD)) = true
  text : Txt.join " " s.signs = s.text
  back : ∃ r, readT s.text = some r ∧ PyData.eqv r.data s.data = true ∧ SeqAt.shaped r.data = true
  split : Txt.split s.text " " = s.signs
theorem known {s : Sh} (h : s ∈ shapesS) : Known s := by
  have h1 := List.all_eq_true.mp menu_ok s h
  have h2 := List.all_eq_true.mp facts s h
  simp only [shapeOk, Bool.and_eq_true, beq_iff_eq] at h1
  simp only [factS, Bool.and_eq_true, decide_eq_true_eq, List.all_eq_true] at h2
  obtain ⟨a1, a2, a3, ⟨a4, a5⟩, a6⟩ := h1
  obtain ⟨b1, b2, b3, b4, b5, b6, b7⟩ := h2
  refine ⟨a1, b1, b2, b3, b4, a2, a3, b5, b6, a4, ?_, a6⟩
  cases e : readT s.text with
  | none =>
    rw [e] at a5
    cases a5
  | some r =>
    rw [e] at a5 b7
    exact ⟨r, rfl, a5, b7⟩
end K19
namespace K19
open PySem L2
open L2.My
def lamR : Str := (PyProof.Rows.envOfC "_law_right" (defScope tRight) 0 0 .none).qual ++ "<lambda>"
abbrev NR : List Str := ["_law_urn_here", "_law_shapes", "_law_shape", "_law_tree_here", "_law_there", "_law_text_here", "_law_words", "_law_at", "_law_word", "_law_near", "_law_told_here"]
theorem scRight : FnScope NR ["_law_urn_here"] (defScope tRight) := ⟨rfl, rfl, rfl, by decide +kernel, rfl, by decide +kernel, by decide +kernel⟩
theorem iteFe {c : Bool} {A B : Prop} (h : c = false) (b : B) : if c = true then A else B := by
  rw [h]
  exact iteF b
theorem iteTe {c : Bool} {A B : Prop} (h : c = true) (a : A) : if c = true then A else B := by
  rw [h]
  exact iteT a
theorem eqv_same {d : PyData} (h : SeqAt.shaped d = true) : PyData.eqv d d = true := SeqAt.eqv_refl d (SeqAt.canLay_of_shaped h)
theorem cut_to {ws : List Str} {i : Nat} : cutV (ws.map V.str) none (some ((i : Nat) : Int)) = (ws.take i).map V.str := by
  unfold cutV
  rw [HT.sIx_none, HT.sIx_nat, List.length_map, List.drop_zero, Nat.sub_zero, List.map_take]
  by_cases c : i ≤ ws.length
  · rw [Nat.min_eq_left c]
  · rw [Nat.min_eq_right (by omega), List.take_of_length_le (by rw [List.length_map]; exact Nat.le_refl _), List.take_of_length_le (by rw [List.length_map]; omega)]
theorem cut_from {ws : List Str} {i : Nat} : cutV (ws.map V.str) (some ((i : Nat) : Int)) none = (ws.drop i).map V.str := by
  unfold cutV
  rw [HT.sIx_nat, HT.sIx_none, List.length_map, List.map_drop]
  by_cases c : i ≤ ws.length
  · rw [Nat.min_eq_left c]
    exact List.take_of_length_le (by rw [List.length_drop, List.length_map]; omega)
  · rw [Nat.min_eq_right (by omega), Nat.sub_self, List.take_zero, List.drop_eq_nil_of_le (by rw [List.length_map]; omega)]
theorem sum_le {n : Nat} : ∀ {ys : List Str}, (∀ x ∈ ys, x.length ≤ n) → (ys.map (·.length)).sum ≤ n * ys.length
  | [], _ => by simp
  | y :: r, h => by
    have h1 := h y (List.mem_cons_self ..)
    have h2 := sum_le (n := n) fun x hx => h x (List.mem_cons_of_mem y hx)
    simp only [List.map_cons, List.sum_cons, List.length_cons, Nat.mul_succ]
    omega
/-- a list of words near the shape's own -/
structure Near (ws : List Str) : Prop where
  len : ws.length ≤ 12
  ok : ∀ x ∈ ws, PyData.strOk x = true ∧ x.length ≤ 5
theorem pe_joinK {K : PySem.W.Frag} {X : Cx} {o e : Expr} {to te : TE} {apos pos : Pos} (hK : X.K = K) (ho : PE X o to) (he : PE X e te) (hs : starEach [e] X.env = [(false, eval e X.env)] := by rfl) (hbase : attributeBase o "join" X.env (eval o X.env) = eval o X.env := by rfl) (hline : (apos.endLine == pos.line) = true := by rfl) :
    PE X (.Call (.Attribute o "join" apos) [e] [] pos) (tM1 (fun x xs H Q => ∃ a p, ∃ ys : List Str, x = .str a ∧ xs = [.ref p] ∧ (SqL K H p (ys.map V.str) ∨ SqT K H p (ys.map V.str)) ∧
      (ys.map (·.length)).sum + ys.length * a.length ≤ 16777216 ∧ Q (.str (Txt.join a ys)) H) to te) := hK ▸ pe_join ho he hs hbase hline
section
variable {P : Program} {w : World} {K : PySem.W.Frag} {mg : Str → Option Value} {base : Heap}
def spRight (T : List (Addr × Str)) : Sp := fun vs H Q _ => ∃ p : Addr, vs = [.ref p] ∧ Urn H p ∧ LamX.Tabs T H ∧ ∀ H', Urn H' p → ButN p H H' → LamX.Tabs T H' → Q (.bl true) H'
theorem ok_right {CP CT CA PT f c fPE : Addr} {fd : FuncData} {Tb : List (Addr × Str)} (F : FunC K "_law_right" tRight f fd c) (TB : LamX.TabB base mg c PT) (hmT : (PT, lamR) ∈ Tb) (huT : ∀ p ∈ Tb, p.1 = PT → p.2 = lamR)
    (T : Txt mg) (hrp : mg "repr" = none) (R : ParC K mg CP fPE) (RT : ErrV K mg "InvalidTree" CT) (RA : ErrV K mg "InvalidArgument" CA) (E3 : Trio K CP CT CA)
    {fM fO fU fG fF fH fHo fLo fPa fWr fTe fRe fX : Addr} {fdM fdO fdU fdG fdF fdH fdHo fdLo fdPa fdWr fdTe fdRe fdX : FuncData}
    (dM : Dn P w K mg base CX0 "_law_menu" [] 40 spMenu fM fdM) (dO : Dn P w K mg base CX0 "_law_one" ["_law_urn_here", "_law_items"] 40 spOne fO fdO) (dU : Dn P w K mg base CX0 "_law_pull" ["_law_urn_here", "_law_total"] 40 spPull fU fdU)
    (dG : Dn P w K mg base CX0 "_law_tree" ["_law_urn_here", "_law_level", "_law_sets"] 40 (spGrow 4) fG fdG)
    (dF : Dn P w K mg base (L2.CX P w) "fits" ["shape", "tree"] 40 (spFits 40 30 9 CA CT) fF fdF) (dH : Dn P w K mg base CX0 "_law_holes" ["_law_shape", "_law_tree_here", "_law_text_here"] 40 (spHolesL 10) fH fdH)
    (dHo : Dn P w K mg base (L2.CX P w) "holes" ["shape"] 40 (spHoles 40 30 10 CA "hole") fHo fdHo) (dLo : Dn P w K mg base (L2.CX P w) "loads" ["shape"] 40 (spHoles 40 30 10 CA "load") fLo fdLo)
    (dPa : Dn P w K mg base CX0 "_law_paths" ["_law_shape", "_law_word"] 40 (spPathsL 10) fPa fdPa) (dWr : Dn P w K mg base (L2.CX P w) "write_shape" ["shape"] 40 (spWrite 40 30 25 CA) fWr fdWr)
    (dTe : Dn P w K mg base CX0 "_law_text" ["_law_shape"] 40 (spTextL 10) fTe fdTe) (dRe : Dn P w K mg base (L2.CX P w) "read_shape" ["text"] 40 (spRead 40 30 CP) fRe fdRe)
    (FX : Fun K "_law_told" "_law_told" tTold fX fdX) (gX : mg "_law_told" = some (.ref fX)) (bX : Binds K fdX ["_law_call"] []) :
    FnG P w K mg base 43 f fd ["_law_urn_here"] (spRight Tb) := by
  obtain ⟨ocX, odX, kVX, docX, pmX, anX, cdvX, ctX, oslX, rfl, lkX, hcdX⟩ := FX.ex
  refine F.okG scRight (fun vs H Q E h => ?_) (fun A outer s H vs Q E hr gd h => ?_)
  · obtain ⟨p, rfl, _⟩ := h
    rfl
  · obtain ⟨p, rfl, lo, tb, k⟩ := h
    have hr40 : Room 40 _ := hr.mono (by decide : 40 ≤ 42)
    have hu0 := Nat.lt_of_succ_lt (hu_of hr)
    have hu : (A.deeper (PyProof.Rows.envOfC "_law_right" (defScope tRight) s.heap.objs.size f (.ref c))).units + 64 < cLine := by
      have := hr.un
      omega
    have reprN : PySem.bootBuiltins "repr" = some (.builtin "repr") := by decide +kernel
    refine ⟨_, pss_cons (ps_set (i := 1) scRight.nd rfl (.inl rfl) (pe_op op_cat (pe_call0 dM.G hr40 rfl dM.g dM.kp dM.b .nil pass0) (pl_lst (pl_cons (pl_tup (pl_cons pl_str pl_nil)) (pl_cons (pl_tup (pl_cons pl_str (pl_cons pl_str (pl_cons (pl_tup (pl_cons pl_str pl_nil)) (pl_cons (pl_tup (pl_cons pl_str pl_nil)) (pl_cons (pl_tup (pl_cons pl_str (pl_cons pl_str pl_nil))) pl_nil))))))
          (pl_cons (pl_tup (pl_cons pl_str (pl_cons (pl_tup (pl_cons pl_str (pl_cons pl_str pl_nil))) pl_nil))) pl_nil))))))
      (pss_cons (ps_par (i := 2) (j := 3) rfl scRight.nd rfl rfl (by decide) rfl rfl (pa_cons (pe_call dO.G hr40 rfl dO.g dO.kp dO.b .nil pass0 (pa_cons (pv 0) (pa_cons (pv 1) pa_nil)))
          (pa_cons (pe_call dG.G hr40 rfl dG.g dG.kp dG.b .nil pass0 (pa_cons (pv 0) (pa_cons pe_int (pa_cons (pe_lst (pa_cons pe_str pa_nil)) pa_nil)))) pa_nil)) (by rfl))
      (pss_cons (ps_for PassesOwn.never rfl (pi_tup (pe_tup (pa_cons (pv 3) (pa_cons (pe_tup (pa_cons pe_str (pa_cons pe_str (pa_cons pe_str (pa_cons pe_int (pa_cons pe_int (pa_cons (pv 3) pa_nil))))))) pa_nil)))) (pg_name (i := 4) scRight.nd rfl (.inl rfl))
        (pss_one (ps_if (pt_cmpR op_ne (pe_callB call_reprNB (by rfl) hrp reprN (pa_cons (pe_call dF.G hr40 rfl dF.g dF.kp dF.b .nil passL (pa_cons (pv 2) (pa_cons (pv 4) pa_nil))) pa_nil))
            (pe_callB call_reprNB (by rfl) hrp reprN (pa_cons (pe_cmpR op_notN (pe_call dH.G hr40 rfl dH.g dH.kp dH.b .nil pass0 (pa_cons (pv 2) (pa_cons (pv 4) (pa_cons pe_str pa_nil)))) pe_non (nomark _)) pa_nil)) (nomark _)) (pss_one (ps_ret pe_bl)) pss_nil)))
      (pss_cons (ps_if (PW.pt (pw_or (pt_cmpR (op_neD hu) (pe_call dHo.G hr40 rfl dHo.g dHo.kp dHo.b .nil passL (pa_cons (pv 2) pa_nil)) (pe_callTy call_tuple_of (by rfl) T.tuple (by decide +kernel) (pa_cons (pe_call dPa.G hr40 rfl dPa.g dPa.kp dPa.b .nil pass0 (pa_cons (pv 2) (pa_cons pe_str pa_nil))) pa_nil)) (nomark _))
          (pw_or1 (pt_cmpR (op_neD hu) (pe_call dLo.G hr40 rfl dLo.g dLo.kp dLo.b .nil passL (pa_cons (pv 2) pa_nil)) (pe_callTy call_tuple_of (by rfl) T.tuple (by decide +kernel) (pa_cons (pe_call dPa.G hr40 rfl dPa.g dPa.kp dPa.b .nil pass0 (pa_cons (pv 2) (pa_cons pe_str pa_nil))) pa_nil)) (nomark _)))))
        (pss_one (ps_ret pe_bl)) pss_nil)
      (pss_cons (ps_set (i := 5) scRight.nd rfl (.inl rfl) (pe_call dWr.G hr40 rfl dWr.g dWr.kp dWr.b .nil passL (pa_cons (pv 2) pa_nil)))
      (pss_cons (ps_if (PW.pt (pw_or (pt_cmpR op_ne (pv 5) (pe_call dTe.G hr40 rfl dTe.g dTe.kp dTe.b .nil pass0 (pa_cons (pv 2) pa_nil)) (nomark _))
          (pw_or1 (pt_cmpR (op_neD hu) (pe_call dRe.G hr40 rfl dRe.g dRe.kp dRe.b .nil passL (pa_cons (pv 5) pa_nil)) (pv 2) (nomark _)))))
        (pss_one (ps_ret pe_bl)) pss_nil)
      (pss_cons (ps_set (i := 6) scRight.nd rfl (.inl rfl) (pe_split (pv 5) pe_str))
      (pss_cons (ps_par (i := 7) (j := 8) rfl scRight.nd rfl rfl (by decide) rfl rfl (pa_cons (pe_call dU.G hr40 rfl dU.g dU.kp dU.b .nil pass0 (pa_cons (pv 0) (pa_cons (pe_callB call_len_seq (by rfl) T.len PySem.boot_len (pa_cons (pv 6) pa_nil)) pa_nil)))
          (pa_cons (pe_call dO.G hr40 rfl dO.g dO.kp dO.b .nil pass0 (pa_cons (pv 0) (pa_cons (pe_lst (pa_cons pe_str (pa_cons pe_str (pa_cons pe_str (pa_cons pe_str (pa_cons pe_str (pa_cons pe_str (pa_cons pe_str (pa_cons pe_str (pa_cons pe_str pa_nil)))))))))) pa_nil))) pa_nil)) (by rfl))
      (pss_cons (ps_for PassesOwn.never rfl (pi_tup (pe_tup (pa_cons (pe_op op_cat (pe_op op_cat (pe_slice sl_list (pv 6) po_none (po_some (pv 7))) (pe_lst (pa_cons (pv 8) pa_nil))) (pe_slice sl_list (pv 6) (po_some (pe_op op_add (pv 7) pe_int)) po_none))
          (pa_cons (pe_op op_cat (pe_slice sl_list (pv 6) po_none (po_some (pv 7))) (pe_slice sl_list (pv 6) (po_some (pe_op op_add (pv 7) pe_int)) po_none))
          (pa_cons (pe_op op_cat (pe_op op_cat (pe_slice sl_list (pv 6) po_none (po_some (pv 7))) (pe_lst (pa_cons (pv 8) pa_nil))) (pe_slice sl_list (pv 6) (po_some (pv 7)) po_none)) pa_nil))))) (pg_name (i := 9) scRight.nd rfl (.inr rfl))
        (pss_cons (ps_set (i := 10) scRight.nd rfl (.inl rfl) (LamX.pe_lamcall (T := Tb) (k := 40) (a := "_law_call") (Ng := ["_law_call", "e"]) rfl gX FX.kp lkX hcdX bX scTold rfl (.inl rfl) (word_gives R RT RA E3 hrp) TB rfl hmT huT hr (LamX.lamS_by (show LamX.lamSB (defScope tRight) _ = true by decide +kernel)) (by rfl) (fun _ _ _ _ _ => by rfl)
          (fun A2 outer2 s2 H2 E2 f2 c2 hr2 => pe_callS dRe.G hr2 rfl dRe.g dRe.kp dRe.b (fun σ => passAt (takes_of rfl rfl rfl rfl) σ) (pa_cons (pe_joinK (K := K) rfl pe_str (pv 9)) pa_nil))))
        (pss_one (ps_if (PW.pt (pw_and (pt_cmpR (op_neX hu0) (pv 10) pe_str (nomark _)) (pw_and1 (PW.pt (pw_or (pt_val (pe_callB call_isi (by rfl) T.isi (by decide +kernel) (pa_cons (pv 10) (pa_cons (pe_bltn (v := .ty "str") (by rfl) T.str (by decide +kernel) rfl) pa_nil))))
            (pw_or1 (pt_cmpR op_ne (pe_call dWr.G hr40 rfl dWr.g dWr.kp dWr.b .nil passL (pa_cons (pv 10) pa_nil)) (pe_join pe_str (pv 9)) (nomark _))))))))
          (pss_one (ps_ret pe_bl)) pss_nil))))
      (pss_one (ps_ret pe_bl)))))))))), ?_⟩
    have lp : ∀ n : Nat, n ≤ 100 → n ≤ sizeLine := fun n h => Nat.le_trans h (by decide)
    refine ⟨rfl, fun l1 xs1 H1 s1 n1 e1 r1 => ?_⟩
    have l18 := r1.len
    refine cat_lit (qs := [.hole, .op "f" [.hole, .load, .op "one" []], .store (.op "one" [])]) (g := fun _ _ => False) e1 (by simp [Lit.ok, Lit.okA, L2.start]) r1 (fun k s u h => h.elim) (by repeat' (first | exact LSs.nil | apply LSs.cons | exact LS.v (.inl ⟨rfl, rfl⟩) | exact LS.v (.inr ⟨rfl, rfl⟩) | exact LS.hole | exact LS.load | apply LS.store | apply LS.op | decide +kernel)) (by rw [l18]; decide) fun l2 xs2 H2 s2 n2 e2 r2 => ?_
    have r2 : RShs H2 xs2 shapesS := r2
    have l21 : xs2.length = 21 := r2.len
    have s02 := s1.trans s2
    refine ⟨_, rfl, _, rfl, p, l2, xs2, rfl, e2, (fun z => by rw [z] at l21; cases l21), by omega, (lo.same s1).ne n2, lo.same s02, fun x hx H3 lo3 u3 => ?_⟩
    obtain ⟨sh, hsh, rx⟩ : ∃ sh, sh ∈ shapesS ∧ RSh H2 x sh := by
      obtain ⟨i, hi⟩ := List.getElem?_of_mem hx
      obtain ⟨s', h1, h2⟩ := r2.at hi
      exact ⟨s', List.mem_of_getElem? h1, h2⟩
    have kn := known hsh
    have rx3 := rx.kp (lo.same s02 |>.kp lo3 u3)
    refine ⟨_, rfl, lp 1 (by decide), fun q nq => ?_⟩
    have s4 := grow (o := .lst [.str "p"]) nq
    refine ⟨p, q, rfl, lo3.same s4, upd_same, lo3.ne nq, fun y tr H5 ry gy lo5 u5 => ?_⟩
    have rx5 := (rx3.on s4).kp ((lo3.same s4).kp lo5 u5)
    have b5 : But p H H5 := (((But.of s02).trans u3).trans (.of s4)).trans u5
    have tb5 : LamX.Tabs Tb H5 := tabs_but tb b5 lo.isL
    have bn5 : ButN p H H5 := .of b5
    clear u5 s4 nq rx3 u3 rx r2 l21 e2 n2 s02 s2
    refine ⟨_, _, rfl, ?_⟩
    obtain ⟨ty1, ty2⟩ := ry.tv gy
    have tx5 : Tv H5 40 30 x := rx5.tv (by have := kn.sz; omega) (by decide)
    have sx : shapeB H5 x = true := by rw [rx5.shapeB tx5]; exact kn.ok
    -- the tree and the store
    refine ⟨_, rfl, _, rfl, lp 6 (by decide), fun t6 n6 => ?_⟩
    have s6 : Same H5 (upd H5 t6 (.tup [.str "store", .str "s", .str "c", .int 1, .int 0, y])) := grow n6
    have e6 : (upd H5 t6 (.tup [.str "store", .str "s", .str "c", .int 1, .int 0, y])) t6 = some (.tup [.str "store", .str "s", .str "c", .int 1, .int 0, y]) := upd_same
    revert s6 e6
    generalize upd H5 t6 (.tup [.str "store", .str "s", .str "c", .int 1, .int 0, y]) = H6
    intro s6 e6
    refine ⟨lp 2 (by decide), fun t7 n7 => ?_⟩
    have s7 : Same H6 (upd H6 t7 (.tup [y, .ref t6])) := grow n7
    have e7 : (upd H6 t7 (.tup [y, .ref t6])) t7 = some (.tup [y, .ref t6]) := upd_same
    revert s7 e7
    generalize upd H6 t7 (.tup [y, .ref t6]) = H7
    intro s7 e7
    have s57 := s6.trans s7
    have rst : RTr H7 (.ref t6) (.store "s" "c" 1 0 tr) := .store (s7 _ _ e6) ⟨by decide +kernel, by decide +kernel⟩ (ry.on s57)
    have gst : goodSt (.store "s" "c" 1 0 tr) = true := by
      have z1 : nameZ "s" = true := by decide +kernel
      have z2 : nameZ "c" = true := by decide +kernel
      have z3 : inB 1 = true := by decide +kernel
      have z4 : inB 0 = true := by decide +kernel
      simp [goodSt, z1, z2, z3, z4, gy]
    refine ⟨t7, rfl, ⟨_, SqT.of e7⟩, for_tup (xs := [y, .ref t6]) (fun i σ H' => ∃ o4, σ = [some (V.ref p), some (.ref l2), some x, some y, o4, none, none, none, none, none, none] ∧ Same H7 H') ⟨none, rfl, Same.refl H7⟩ (fun i σ H' _ ⟨_, _, q⟩ => SqT.of (q _ _ e7)) ?_ ?_⟩
    · rintro i v σ H8 hv ⟨o4, rfl, s8⟩
      have s58 := s57.trans s8
      -- what stands there: a tree, or a store
      obtain ⟨tt, rv, tv8, is8⟩ : ∃ tt, RTr H8 v tt ∧ Tv H8 40 30 v ∧ (tree4 H8 v = true ∨ stB H8 v = true) := by
        match i, hv with
        | 0, hv =>
          cases hv
          obtain ⟨q1, q2⟩ := (ry.on s58).tv gy
          exact ⟨tr, ry.on s58, (q1.wide (by decide)).upN (by decide), .inl q2⟩
        | 1, hv =>
          cases hv
          obtain ⟨q1, _, q3⟩ := (rst.on s8).st gst
          exact ⟨_, rst.on s8, (q1.wide (by decide)).upN (by decide), .inr q3⟩
        | _ + 2, hv => simp at hv
      have rx8 := rx5.on s58
      have tx8 := tx5.same s58
      have sx8 : shapeB H8 x = true := by rw [rx8.shapeB tx8]; exact kn.ok
      have nb : ∀ {R0 : Prop}, shapeB H8 x = false → R0 := fun c => by
        rw [sx8] at c
        cases c
      refine ⟨_, rfl, _, rfl, x, v, rfl, tx8, tv8, fun c => nb c, fun _ c1 c2 => (by rcases is8 with z | z <;> first | (rw [z] at c1; cases c1; done) | (rw [z] at c2; cases c2)), fun _ _ => ⟨sh, tt, rx8, rv, by have := kn.sz; omega, by have := kn.sz; omega, fun H9 s9 => ?_⟩⟩
      refine .inr ⟨_, rfl, ?_⟩
      have sl : ((("s" : Str)).length) = 1 := by decide +kernel
      refine ⟨_, rfl, _, rfl, x, v, _, sh, tt, rfl, rx8.on s9, rv.on s9, by have := kn.sz; omega, by have := kn.sz; omega, by rw [sl]; have := kn.sz; omega, fun ef H10 s10 => ?_, fun ef l10 ts10 H10 s10 e10 _ => ?_⟩
      · refine ⟨rfl, .inr ⟨_, rfl, rfl, _, rfl, ?_⟩⟩
        refine iteFe (show (!decide (V.str (PyData.bool (fit sh tt)).shown = V.str (PyData.bool (!decide ((V.non : V) = V.non))).shown)) = false from ?_) ⟨_, rfl, (s8.trans s9).trans s10⟩
        rw [ef]
        simp
      · refine ⟨rfl, .inr ⟨_, rfl, rfl, _, rfl, ?_⟩⟩
        refine iteFe (show (!decide (V.str (PyData.bool (fit sh tt)).shown = V.str (PyData.bool (!decide (V.ref l10 = V.non))).shown)) = false from ?_) ⟨_, rfl, (s8.trans s9).trans s10⟩
        rw [ef]
        simp
    · rintro σ H8 ⟨o4, rfl, s8⟩
      have s58 := s57.trans s8
      have rx8 := rx5.on s58
      have tx8 := tx5.same s58
      have sz9 := kn.sz
      have shp : ∀ {H9 : Hp}, Same H8 H9 → shapeB H9 x = true := fun {H9} s9 => by
        rw [(rx8.on s9).shapeB (tx8.same s9)]
        exact kn.ok
      -- holes
      refine ⟨_, rfl, x, rfl, tx8, (fun c => absurd c (by rw [shp (Same.refl H8)]; exact Bool.noConfusion)), fun _ => ⟨sh, rx8, by omega, by omega, fun th Hh rh sh1 eh ph => ?_⟩⟩
      refine ⟨_, rfl, x, _, sh, rfl, rx8.on sh1, by omega, by omega, fun lh rl Hl sl1 el pl => ?_⟩
      refine ⟨lh, _, rfl, .inl ⟨SqL.of el, fun th2 nth2 => ?_⟩⟩
      have sh2 : Same Hl (upd Hl th2 (.tup rl)) := grow nth2
      have eh2 : (upd Hl th2 (.tup rl)) th2 = some (.tup rl) := upd_same
      revert sh2 eh2
      generalize upd Hl th2 (.tup rl) = H9
      intro sh2 eh2
      have s89 := (sh1.trans sl1).trans sh2
      refine ⟨_, _, .tup (SqT.of ((sl1.trans sh2) _ _ eh)) (ph.kp (.of (sl1.trans sh2))).dps, .tup (SqT.of eh2) (pl.kp (.of sh2)).dps, kn.hd, by rw [← kn.holes]; exact kn.hd, _, rfl, ?_⟩
      rw [← kn.holes, eqv_same kn.hd]
      refine iteF ?_
      -- loads
      refine ⟨_, rfl, x, rfl, tx8.same s89, (fun c => absurd c (by rw [shp s89]; exact Bool.noConfusion)), fun _ => ⟨sh, rx8.on s89, by omega, by omega, fun ti Hi ri si1 ei pi => ?_⟩⟩
      refine ⟨_, rfl, x, _, sh, rfl, (rx8.on s89).on si1, by omega, by omega, fun lj rj Hj sj1 ej pj => ?_⟩
      refine ⟨lj, _, rfl, .inl ⟨SqL.of ej, fun tj2 ntj2 => ?_⟩⟩
      have sj2 : Same Hj (upd Hj tj2 (.tup rj)) := grow ntj2
      have ej2 : (upd Hj tj2 (.tup rj)) tj2 = some (.tup rj) := upd_same
      revert sj2 ej2
      generalize upd Hj tj2 (.tup rj) = H10
      intro sj2 ej2
      have s810 := ((s89.trans si1).trans sj1).trans sj2
      refine ⟨_, _, .tup (SqT.of ((sj1.trans sj2) _ _ ei)) (pi.kp (.of (sj1.trans sj2))).dps, .tup (SqT.of ej2) (pj.kp (.of sj2)).dps, kn.ld, by rw [← kn.loads]; exact kn.ld, _, rfl, ?_⟩
      rw [← kn.loads, eqv_same kn.ld]
      refine iteF ?_
      -- the text
      have txl : (sh.signs.map (·.length)).sum ≤ 5 * sh.signs.length ∧ TextOk (Txt.join " " sh.signs) := by
        have := near_text (ws := sh.signs) (by have := kn.many; omega) kn.words
        exact ⟨this.2, this.1⟩
      have sp1 : ((" " : Str)).length = 1 := by decide +kernel
      have big9 : bigS sh := by
        unfold bigS
        rw [sp1]
        have := txl.1
        have := kn.many
        omega
      refine ⟨_, rfl, x, rfl, tx8.same s810, (fun c => absurd c (by rw [shp s810]; exact Bool.noConfusion)), fun _ => ⟨sh, rx8.on s810, by omega, by omega, big9, fun H11 s11 => ?_⟩⟩
      have s811 := s810.trans s11
      refine ⟨_, rfl, _, rfl, x, sh, rfl, rx8.on s811, by omega, by omega, fun H12 s12 => ?_⟩
      refine ⟨rfl, _, rfl, ?_⟩
      refine iteFe (show (!decide (V.str (Txt.join " " sh.signs) = V.str sh.text)) = false from by rw [kn.text]; simp) ?_
      have s812 := s811.trans s12
      obtain ⟨rr, hr1, hr2, hr3⟩ := kn.back
      refine ⟨_, rfl, _, rfl, .str _ (by have := txl.2.len; omega), (fun z e => by cases e; exact txl.2), (fun z => absurd (z _ rfl) (by rw [kn.text, hr1]; exact fun q => nomatch q)), fun z sr ez er vr H13 s13 rvr => ?_⟩
      cases ez
      rw [kn.text, hr1] at er
      cases er
      have s813 := s812.trans s13
      refine ⟨_, rfl, _, _, rvr.dp, (rx8.on s813).dp, hr3, kn.dat, _, rfl, ?_⟩
      rw [hr2]
      refine iteF ?_
      have ew : Txt.split (Txt.join " " sh.signs) " " = sh.signs := by rw [kn.text, kn.split]
      refine ⟨_, rfl, ⟨_, rfl⟩, _, _, rfl, rfl, by decide +kernel, ?_, fun lw nlw => ?_⟩
      · have := txl.2.len
        have : (1000 : Nat) ≤ sizeLine := by decide
        omega
      rw [ew]
      have s14 : Same H13 (upd H13 lw (.lst (sh.signs.map V.str))) := grow nlw
      have e14 : (upd H13 lw (.lst (sh.signs.map V.str))) lw = some (.lst (sh.signs.map V.str)) := upd_same
      revert s14 e14
      generalize upd H13 lw (.lst (sh.signs.map V.str)) = H14
      intro s14 e14
      have s514 := (s58.trans s813).trans s14
      have lo14 := lo5.same s514
      have many := kn.many
      have pos : 0 < sh.signs.length := by
        have := sz_signs sh
        have := sz_pos sh
        omega
      refine ⟨_, rfl, _, rfl, lw, _, rfl, .inl (SqL.of e14), p, ((sh.signs.map V.str).length : Int), rfl, by rw [List.length_map]; omega, by rw [List.length_map]; omega, lo14, fun r H15 r0 r1 lo15 u15 => ?_⟩
      rw [List.length_map] at r1
      obtain ⟨i, rfl⟩ := Int.eq_ofNat_of_zero_le r0
      have il : i < sh.signs.length := by omega
      refine ⟨_, rfl, lp 9 (by decide), fun l16 n16 => ?_⟩
      have s16 : Same H15 (upd H15 l16 (.lst (pickW.map V.str))) := grow n16
      refine ⟨p, l16, pickW.map V.str, rfl, upd_same, by decide, by decide, lo15.ne n16, lo15.same s16, fun xw hxw H17 lo17 u17 => ?_⟩
      obtain ⟨wd, hwd, rfl⟩ := List.mem_map.mp hxw
      have okw : PyData.strOk wd = true ∧ wd.length ≤ 5 := by
        have := List.all_eq_true.mp picks wd hwd
        rw [Bool.and_eq_true, decide_eq_true_eq] at this
        exact this
      have lwp : lw ≠ p := (lo5.same (s58.trans s813)).ne nlw
      have e17 : H17 lw = some (.lst (sh.signs.map V.str)) := u17 lw lwp _ (s16 _ _ (u15 lw lwp _ e14))
      have b17 : But p H H17 := ((b5.trans (.of s514)).trans u15).trans ((But.of s16).trans u17)
      have tb17 : LamX.Tabs Tb H17 := tabs_but tb b17 lo.isL
      refine ⟨_, _, rfl, ?_⟩
      have lenA : ∀ n : Nat, n ≤ 12 → ((sh.signs.take i).map V.str).length + [V.str wd].length ≤ sizeLine := fun n hn => by
        rw [List.length_map, List.length_take]
        have : (1000 : Nat) ≤ sizeLine := by decide
        show min i sh.signs.length + 1 ≤ _
        omega
      have lenD : ((sh.signs.take i).map V.str).length + ((sh.signs.drop (i + 1)).map V.str).length ≤ sizeLine := by
        rw [List.length_map, List.length_take, List.length_map, List.length_drop]
        have : (1000 : Nat) ≤ sizeLine := by decide
        omega
      have lenC : ((sh.signs.take i).map V.str ++ [V.str wd]).length + ((sh.signs.drop i).map V.str).length ≤ sizeLine := by
        rw [List.length_append, List.length_map, List.length_take, List.length_map, List.length_drop]
        have : (1000 : Nat) ≤ sizeLine := by decide
        show min i sh.signs.length + 1 + _ ≤ _
        omega
      have lenB : ((sh.signs.take i).map V.str ++ [V.str wd]).length + ((sh.signs.drop (i + 1)).map V.str).length ≤ sizeLine := by
        rw [List.length_append, List.length_map, List.length_take, List.length_map, List.length_drop]
        have : (1000 : Nat) ≤ sizeLine := by decide
        show min i sh.signs.length + 1 + _ ≤ _
        omega
      refine ⟨_, rfl, _, rfl, _, rfl, lw, _, rfl, SqL.of e17, fun a1 na1 => ?_⟩
      rw [cut_to]
      have s_a1 : Same H17 (upd H17 a1 (.lst ((sh.signs.take i).map V.str))) := grow na1
      have e_a1 : (upd H17 a1 (.lst ((sh.signs.take i).map V.str))) a1 = some (.lst ((sh.signs.take i).map V.str)) := upd_same
      revert s_a1 e_a1
      generalize upd H17 a1 (.lst ((sh.signs.take i).map V.str)) = Ga
      intro s_a1 e_a1
      refine ⟨_, rfl, lp 1 (by decide), fun a2 na2 => ?_⟩
      have s_a2 : Same Ga (upd Ga a2 (.lst ([V.str wd]))) := grow na2
      have e_a2 : (upd Ga a2 (.lst ([V.str wd]))) a2 = some (.lst ([V.str wd])) := upd_same
      revert s_a2 e_a2
      generalize upd Ga a2 (.lst ([V.str wd])) = Gb
      intro s_a2 e_a2
      refine ⟨a1, a2, _, _, rfl, rfl, s_a2 _ _ e_a1, e_a2, lenA 0 (by decide), fun a3 na3 => ?_⟩
      have s_a3 : Same Gb (upd Gb a3 (.lst ((sh.signs.take i).map V.str ++ [V.str wd]))) := grow na3
      have e_a3 : (upd Gb a3 (.lst ((sh.signs.take i).map V.str ++ [V.str wd]))) a3 = some (.lst ((sh.signs.take i).map V.str ++ [V.str wd])) := upd_same
      revert s_a3 e_a3
      generalize upd Gb a3 (.lst ((sh.signs.take i).map V.str ++ [V.str wd])) = Gc
      intro s_a3 e_a3
      have e17c := s_a3 _ _ (s_a2 _ _ (s_a1 _ _ e17))
      refine ⟨_, rfl, _, rfl, _, _, rfl, rfl, _, rfl, ?_⟩
      unfold tNoPart
      refine ⟨lw, _, rfl, SqL.of e17c, fun a4 na4 => ?_⟩
      rw [show ((i : Nat) : Int) + 1 = ((i + 1 : Nat) : Int) by omega, cut_from]
      have s_a4 : Same Gc (upd Gc a4 (.lst ((sh.signs.drop (i + 1)).map V.str))) := grow na4
      have e_a4 : (upd Gc a4 (.lst ((sh.signs.drop (i + 1)).map V.str))) a4 = some (.lst ((sh.signs.drop (i + 1)).map V.str)) := upd_same
      revert s_a4 e_a4
      generalize upd Gc a4 (.lst ((sh.signs.drop (i + 1)).map V.str)) = Gd
      intro s_a4 e_a4
      refine ⟨a3, a4, _, _, rfl, rfl, s_a4 _ _ e_a3, e_a4, lenB, fun a5 na5 => ?_⟩
      have s_a5 : Same Gd (upd Gd a5 (.lst ((sh.signs.take i).map V.str ++ [V.str wd] ++ (sh.signs.drop (i + 1)).map V.str))) := grow na5
      have e_a5 : (upd Gd a5 (.lst ((sh.signs.take i).map V.str ++ [V.str wd] ++ (sh.signs.drop (i + 1)).map V.str))) a5 = some (.lst ((sh.signs.take i).map V.str ++ [V.str wd] ++ (sh.signs.drop (i + 1)).map V.str)) := upd_same
      revert s_a5 e_a5
      generalize upd Gd a5 (.lst ((sh.signs.take i).map V.str ++ [V.str wd] ++ (sh.signs.drop (i + 1)).map V.str)) = Ge
      intro s_a5 e_a5
      have e17e := s_a5 _ _ (s_a4 _ _ e17c)
      refine ⟨_, rfl, _, rfl, _, rfl, lw, _, rfl, SqL.of e17e, fun b1 nb1 => ?_⟩
      rw [cut_to]
      have s_b1 : Same Ge (upd Ge b1 (.lst ((sh.signs.take i).map V.str))) := grow nb1
      have e_b1 : (upd Ge b1 (.lst ((sh.signs.take i).map V.str))) b1 = some (.lst ((sh.signs.take i).map V.str)) := upd_same
      revert s_b1 e_b1
      generalize upd Ge b1 (.lst ((sh.signs.take i).map V.str)) = Gf
      intro s_b1 e_b1
      refine ⟨_, rfl, _, rfl, _, _, rfl, rfl, _, rfl, ?_⟩
      refine ⟨lw, _, rfl, SqL.of (s_b1 _ _ e17e), fun b2 nb2 => ?_⟩
      rw [show ((i : Nat) : Int) + 1 = ((i + 1 : Nat) : Int) by omega, cut_from]
      have s_b2 : Same Gf (upd Gf b2 (.lst ((sh.signs.drop (i + 1)).map V.str))) := grow nb2
      have e_b2 : (upd Gf b2 (.lst ((sh.signs.drop (i + 1)).map V.str))) b2 = some (.lst ((sh.signs.drop (i + 1)).map V.str)) := upd_same
      revert s_b2 e_b2
      generalize upd Gf b2 (.lst ((sh.signs.drop (i + 1)).map V.str)) = Gg
      intro s_b2 e_b2
      refine ⟨b1, b2, _, _, rfl, rfl, s_b2 _ _ e_b1, e_b2, lenD, fun b3 nb3 => ?_⟩
      have s_b3 : Same Gg (upd Gg b3 (.lst ((sh.signs.take i).map V.str ++ (sh.signs.drop (i + 1)).map V.str))) := grow nb3
      have e_b3 : (upd Gg b3 (.lst ((sh.signs.take i).map V.str ++ (sh.signs.drop (i + 1)).map V.str))) b3 = some (.lst ((sh.signs.take i).map V.str ++ (sh.signs.drop (i + 1)).map V.str)) := upd_same
      revert s_b3 e_b3
      generalize upd Gg b3 (.lst ((sh.signs.take i).map V.str ++ (sh.signs.drop (i + 1)).map V.str)) = Gh
      intro s_b3 e_b3
      have e17h := s_b3 _ _ (s_b2 _ _ (s_b1 _ _ e17e))
      refine ⟨_, rfl, _, rfl, _, rfl, lw, _, rfl, SqL.of e17h, fun c1 nc1 => ?_⟩
      rw [cut_to]
      have s_c1 : Same Gh (upd Gh c1 (.lst ((sh.signs.take i).map V.str))) := grow nc1
      have e_c1 : (upd Gh c1 (.lst ((sh.signs.take i).map V.str))) c1 = some (.lst ((sh.signs.take i).map V.str)) := upd_same
      revert s_c1 e_c1
      generalize upd Gh c1 (.lst ((sh.signs.take i).map V.str)) = Gi
      intro s_c1 e_c1
      refine ⟨_, rfl, lp 1 (by decide), fun c2 nc2 => ?_⟩
      have s_c2 : Same Gi (upd Gi c2 (.lst ([V.str wd]))) := grow nc2
      have e_c2 : (upd Gi c2 (.lst ([V.str wd]))) c2 = some (.lst ([V.str wd])) := upd_same
      revert s_c2 e_c2
      generalize upd Gi c2 (.lst ([V.str wd])) = Gj
      intro s_c2 e_c2
      refine ⟨c1, c2, _, _, rfl, rfl, s_c2 _ _ e_c1, e_c2, lenA 0 (by decide), fun c3 nc3 => ?_⟩
      have s_c3 : Same Gj (upd Gj c3 (.lst ((sh.signs.take i).map V.str ++ [V.str wd]))) := grow nc3
      have e_c3 : (upd Gj c3 (.lst ((sh.signs.take i).map V.str ++ [V.str wd]))) c3 = some (.lst ((sh.signs.take i).map V.str ++ [V.str wd])) := upd_same
      revert s_c3 e_c3
      generalize upd Gj c3 (.lst ((sh.signs.take i).map V.str ++ [V.str wd])) = Gk
      intro s_c3 e_c3
      have e17k := s_c3 _ _ (s_c2 _ _ (s_c1 _ _ e17h))
      refine ⟨_, rfl, _, rfl, _, rfl, ?_⟩
      refine ⟨lw, _, rfl, SqL.of e17k, fun c4 nc4 => ?_⟩
      rw [cut_from]
      have s_c4 : Same Gk (upd Gk c4 (.lst ((sh.signs.drop i).map V.str))) := grow nc4
      have e_c4 : (upd Gk c4 (.lst ((sh.signs.drop i).map V.str))) c4 = some (.lst ((sh.signs.drop i).map V.str)) := upd_same
      revert s_c4 e_c4
      generalize upd Gk c4 (.lst ((sh.signs.drop i).map V.str)) = Gl
      intro s_c4 e_c4
      refine ⟨c3, c4, _, _, rfl, rfl, s_c4 _ _ e_c3, e_c4, lenC, fun c5 nc5 => ?_⟩
      have s_c5 : Same Gl (upd Gl c5 (.lst ((sh.signs.take i).map V.str ++ [V.str wd] ++ (sh.signs.drop i).map V.str))) := grow nc5
      have e_c5 : (upd Gl c5 (.lst ((sh.signs.take i).map V.str ++ [V.str wd] ++ (sh.signs.drop i).map V.str))) c5 = some (.lst ((sh.signs.take i).map V.str ++ [V.str wd] ++ (sh.signs.drop i).map V.str)) := upd_same
      revert s_c5 e_c5
      generalize upd Gl c5 (.lst ((sh.signs.take i).map V.str ++ [V.str wd] ++ (sh.signs.drop i).map V.str)) = Gm
      intro s_c5 e_c5
      have s_ab := (((((s_b1.trans s_b2).trans s_b3).trans s_c1).trans s_c2).trans s_c3).trans (s_c4.trans s_c5)
      have s_bb := ((s_c1.trans s_c2).trans s_c3).trans (s_c4.trans s_c5)
      refine ⟨lp 3 (by decide), fun t20 n20 => ?_⟩
      have s20 : Same Gm (upd Gm t20 (.tup [.ref a5, .ref b3, .ref c5])) := grow n20
      have e20 : (upd Gm t20 (.tup [.ref a5, .ref b3, .ref c5])) t20 = some (.tup [.ref a5, .ref b3, .ref c5]) := upd_same
      revert s20 e20
      generalize upd Gm t20 (.tup [.ref a5, .ref b3, .ref c5]) = H20
      intro s20 e20
      have ea := s20 _ _ (s_ab _ _ e_a5)
      have eb := s20 _ _ (s_bb _ _ e_b3)
      have ec := s20 _ _ e_c5
      have s1720 : Same H17 H20 := ((((s_a1.trans s_a2).trans s_a3).trans (s_a4.trans s_a5)).trans s_ab).trans s20
      have oks : ∀ y ∈ sh.signs, PyData.strOk y = true ∧ y.length ≤ 5 := kn.words
      have nears : ∀ v ∈ [V.ref a5, V.ref b3, V.ref c5], ∃ b ws, v = V.ref b ∧ H20 b = some (.lst (ws.map V.str)) ∧ Near ws := by
        intro v hv
        simp only [List.mem_cons, List.not_mem_nil, or_false] at hv
        rcases hv with rfl | rfl | rfl
        · refine ⟨a5, sh.signs.take i ++ [wd] ++ sh.signs.drop (i + 1), rfl, by rw [ea]; simp, ?_, fun y hy => ?_⟩
          · simp only [List.length_append, List.length_take, List.length_drop, List.length_cons, List.length_nil]
            omega
          · simp only [List.mem_append, List.mem_singleton] at hy
            rcases hy with (hy | rfl) | hy
            · exact oks y (List.mem_of_mem_take hy)
            · exact okw
            · exact oks y (List.mem_of_mem_drop hy)
        · refine ⟨b3, sh.signs.take i ++ sh.signs.drop (i + 1), rfl, by rw [eb]; simp, ?_, fun y hy => ?_⟩
          · simp only [List.length_append, List.length_take, List.length_drop]
            omega
          · simp only [List.mem_append] at hy
            rcases hy with hy | hy
            · exact oks y (List.mem_of_mem_take hy)
            · exact oks y (List.mem_of_mem_drop hy)
        · refine ⟨c5, sh.signs.take i ++ [wd] ++ sh.signs.drop i, rfl, by rw [ec]; simp, ?_, fun y hy => ?_⟩
          · simp only [List.length_append, List.length_take, List.length_drop, List.length_cons, List.length_nil]
            omega
          · simp only [List.mem_append, List.mem_singleton] at hy
            rcases hy with (hy | rfl) | hy
            · exact oks y (List.mem_of_mem_take hy)
            · exact okw
            · exact oks y (List.mem_of_mem_drop hy)
      have b20 : But p H H20 := b17.trans (.of s1720)
      have tb20 : LamX.Tabs Tb H20 := tabs_but tb b20 lo.isL
      have lo20 := lo17.same s1720
      refine ⟨t20, rfl, ⟨_, SqT.of e20⟩, for_tup (xs := [V.ref a5, V.ref b3, V.ref c5]) (fun j σ H' => ∃ o4 o9 o10, σ = [some (V.ref p), some (.ref l2), some x, some y, o4, some (.str (Txt.join " " sh.signs)), some (.ref lw), some (.int ((i : Nat) : Int)), some (.str wd), o9, o10] ∧ LamX.ExtN H20 H' ∧ LamX.Tabs Tb H')
        ⟨_, _, _, rfl, LamX.ExtN.refl H20, tb20⟩ (fun j σ H' _ ⟨_, _, _, _, q, _⟩ => seqT_ext (SqT.of e20) q) ?_ ?_⟩
      · rintro j v σ H21 hv ⟨o4', o9, o10, rfl, x21, tb21⟩
        obtain ⟨nb, ws, rfl, enb, nw⟩ := nears v (List.mem_of_getElem? hv)
        have nt := near_text nw.len nw.ok
        have nl := nw.len
        refine ⟨tb21, fun G1 z1 tb1 => ?_⟩
        have enb1 := z1 _ _ (x21 _ _ enb (fun ps z => by cases z)) (fun ps z => by cases z)
        have x1 := x21.trans z1
        refine ⟨⟨_, rfl⟩, _, rfl, _, nb, ws, rfl, rfl, .inl (SqL.of enb1), ?_, ?_⟩
        · rw [sp1]
          have := nt.2
          omega
        refine ⟨_, rfl, .str _ (by have := nt.1.len; omega), (fun z e => by cases e; exact nt.1), fun hn => fun Ge d se ne => .inl ⟨rfl, d, rfl, upd_same, ?_⟩, fun z s' ez es v Gv sv rv => ?_⟩
        · have sE : Same G1 (upd Ge d (.xd [(("line" : Str), .non)])) := se.trans (grow ne)
          have tbE := tb1.ext sE
          have xE := x1.trans (.of sE)
          revert tbE xE
          generalize upd Ge d (.xd [(("line" : Str), .non)]) = G2
          intro tbE xE
          refine ⟨_, rfl, some "parse None", _, rfl, .str _, _, rfl, ?_⟩
          refine iteFe (by simp) ⟨_, _, _, rfl, xE, tbE⟩
        · cases ez
          obtain ⟨ok1, ok2⟩ := readT_says es
          have xV := x1.trans (.of sv)
          have tbV := tb1.ext sv
          have sz' : s'.sz ≤ 21 := by
            obtain ⟨_, q2, q3⟩ := shapeOf_says es
            have := sz_signs s'
            rw [q2] at this
            omega
          have tv : Tv Gv 40 30 v := rv.tv (n := 30) (by omega) (by decide)
          have sv' : shapeB Gv v = true := by rw [rv.shapeB tv]; exact ok1
          obtain ⟨av, xsv, rfl, eav⟩ := rv.open
          refine ⟨_, rfl, none, _, rfl, .tup eav, _, rfl, ?_⟩
          refine iteTe (by simp) ?_
          refine ⟨_, rfl, _, _, _, _, _, rfl, ClsV.ty _, .base (.tup eav), kit_ty (r := false) (by decide +kernel), _, rfl, iteF ?_⟩
          refine ⟨_, rfl, _, rfl, tv, (fun c => absurd c (by rw [sv']; exact Bool.noConfusion)), fun _ => ⟨s', rv, by omega, by omega, ?_, fun G3 s3 => ?_⟩⟩
          · obtain ⟨_, q2, q3⟩ := shapeOf_says es
            have wz := nt.1.words
            unfold bigS
            rw [sp1, q2]
            have := sum_le (n := 100) wz.small
            have := wz.len
            omega
          · have enb3 := s3 _ _ (sv _ _ enb1)
            refine ⟨⟨_, rfl⟩, _, rfl, _, nb, ws, rfl, rfl, .inl (SqL.of enb3), ?_, rfl, _, rfl, ?_⟩
            · rw [sp1]
              have := nt.2
              omega
            · refine iteFe (by rw [ok2]; simp) ⟨_, _, _, rfl, xV.trans (.of s3), tbV.ext s3⟩
      · rintro σ H21 ⟨o4', o9, o10, rfl, x21, tb21⟩
        exact k H21 (lo20.ext x21) ((ButN.of b20).trans (.ext x21)) tb21
end
end K19
namespace K19
open PySem L2
open L2.My
def lamL : Str := (PyProof.Rows.envOfC "law" (defScope tLaw) 0 0 .none).qual ++ "<lambda>"
/-- a list that is being filled while lambdas are called -/
structure Got (Tb : List (Addr × Str)) (B0 : Hp) (D : Addr) (xs : List V) (H : Hp) : Prop where
  ext : LamX.ExtN B0 H
  new : B0 D = none
  here : H D = some (.lst xs)
  tb : LamX.Tabs Tb H
theorem Got.on {Tb : List (Addr × Str)} {B0 H H' : Hp} {D : Addr} {xs : List V} (g : Got Tb B0 D xs H) (z : LamX.ExtN H H') (t : LamX.Tabs Tb H') : Got Tb B0 D xs H' :=
  ⟨g.ext.trans z, g.new, z _ _ g.here (fun ps q => by cases q), t⟩
theorem Got.same {Tb : List (Addr × Str)} {B0 H H' : Hp} {D : Addr} {xs : List V} (g : Got Tb B0 D xs H) (s : Same H H') : Got Tb B0 D xs H' := g.on (.of s) (g.tb.ext s)
theorem Got.put {Tb : List (Addr × Str)} {B0 H : Hp} {D : Addr} {xs ys : List V} (g : Got Tb B0 D xs H) : Got Tb B0 D ys (upd H D (.lst ys)) :=
  ⟨fun q u e t => by rw [upd_ne (ne_of_none e g.new)]; exact g.ext q u e t, g.new, upd_same, tabs_but g.tb upd_but ⟨_, g.here⟩⟩
theorem Got.start {Tb : List (Addr × Str)} {B0 H : Hp} {D : Addr} {xs : List V} (x : LamX.ExtN B0 H) (n : H D = none) (b : B0 D = none) (t : LamX.Tabs Tb H) : Got Tb B0 D xs (upd H D (.lst xs)) :=
  ⟨x.trans (.of (grow n)), b, upd_same, t.ext (grow n)⟩
/-- what is no shape, no tree, no text -/
structure Odd (H : Hp) (x : V) : Prop where
  tv : Tv H 40 30 x
  sh : shapeB H x = false
  tr : tree4 H x = false
  st : stB H x = false
  ok : ∀ z, x = .str z → TextOk z
  no : ∀ z, x = .str z → readT z = none
theorem shapeB_kp {H H' : Hp} {N n : Nat} {v : V} (t : Tv H N n v) (s : Kp H H') : shapeB H' v = shapeB H v := by
  unfold shapeB
  rw [cw_kp s t]
theorem Odd.kp {H H' : Hp} {x : V} (o : Odd H x) (s : Kp H H') : Odd H' x :=
  ⟨o.tv.kp s, by rw [shapeB_kp o.tv s]; exact o.sh, by rw [show tree4 H' x = tree4 H x from treeB_kp s o.tv]; exact o.tr, by rw [stB_kp s o.tv]; exact o.st, o.ok, o.no⟩
theorem Odd.flat {H : Hp} {x : V} (t : Tv H 40 30 x) (n : tupV H x = none) (ok : ∀ z, x = .str z → TextOk z) (no : ∀ z, x = .str z → readT z = none) : Odd H x := by
  refine ⟨t, ?_, treeB_none n, ?_, ok, no⟩
  · unfold shapeB
    simp only [cw, n]
    rfl
  · unfold stB stateB
    rw [n]
    rfl
theorem Odd.tup {H : Hp} {a : Addr} {xs : List V} (e : H a = some (.tup xs)) (l : xs.length ≤ 2) (t : ∀ x ∈ xs, Tv H 40 29 x) (c : ∀ f, (cwIn f 4 true xs).isSome = false) (p : ∀ f, partsB f xs = false) : Odd H (.ref a) := by
  refine ⟨.tup e (by omega) t, ?_, ?_, ?_, (fun z q => nomatch q), (fun z q => nomatch q)⟩
  · unfold shapeB
    simp only [cw, tupV_of e]
    exact c _
  · unfold tree4
    rw [treeB_tup e]
    exact p _
  · have z : bodyB H xs = false := by
      match xs, l with
      | [], _ => rfl
      | [_], _ => rfl
      | [_, _], _ => rfl
    unfold stB
    rw [stateB_tup e, z]
    rfl
theorem bad1 : TextOk "" ∧ readT "" = none ∧ TextOk "add" ∧ readT "add" = none := by
  have f : ∀ z : Str, (readT z).isNone = true → readT z = none := fun z h => by
    cases e : readT z with
    | none => rfl
    | some s => rw [e] at h; cases h
  exact ⟨⟨by decide +kernel, by decide +kernel⟩, f _ (by decide +kernel), ⟨by decide +kernel, by decide +kernel⟩, f _ (by decide +kernel)⟩
theorem bad2 {z : Str} (h : z ∈ (["add ( _ ) )", "= = _", "add ( _ _ _ _ )", "( ) ( )", "f ( = _ )"] : List Str)) : TextOk z ∧ readT z = none := by
  have a : (["add ( _ ) )", "= = _", "add ( _ _ _ _ )", "( ) ( )", "f ( = _ )"] : List Str).all (fun z => PyData.strOk z && (decide (z.length ≤ 90) && (readT z).isNone)) = true := by decide +kernel
  have := List.all_eq_true.mp a z h
  simp only [Bool.and_eq_true, decide_eq_true_eq] at this
  refine ⟨⟨this.1, this.2.1⟩, ?_⟩
  cases e : readT z with
  | none => rfl
  | some s => rw [e] at this; cases this.2.2
theorem good1 : TextOk "one ( )" ∧ ∃ r, readT "one ( )" = some r ∧ PyData.eqv r.data (.tuple [.str "op", .str "one"]) = true ∧ SeqAt.shaped r.data = true := by
  refine ⟨⟨by decide +kernel, by decide +kernel⟩, ?_⟩
  have h : (match readT "one ( )" with
    | none => false
    | some r => PyData.eqv r.data (.tuple [.str "op", .str "one"]) && SeqAt.shaped r.data) = true := by decide +kernel
  cases e : readT "one ( )" with
  | none => rw [e] at h; cases h
  | some r =>
    rw [e, Bool.and_eq_true] at h
    exact ⟨r, rfl, h.1, h.2⟩
theorem good2 : TextOk "= @" ∧ ∃ r, readT "= @" = some r ∧ PyData.eqv r.data (.tuple [.str "store", .tuple [.str "load"]]) = true ∧ SeqAt.shaped r.data = true := by
  refine ⟨⟨by decide +kernel, by decide +kernel⟩, ?_⟩
  have h : (match readT "= @" with
    | none => false
    | some r => PyData.eqv r.data (.tuple [.str "store", .tuple [.str "load"]]) && SeqAt.shaped r.data) = true := by decide +kernel
  cases e : readT "= @" with
  | none => rw [e] at h; cases h
  | some r =>
    rw [e, Bool.and_eq_true] at h
    exact ⟨r, rfl, h.1, h.2⟩
theorem good3 {r1 r2 : Sh} (h1 : readT "one ( )" = some r1) (h2 : readT "= @" = some r2) : SeqAt.shaped (.list [r1.data, r2.data, .bool false, .bool true]) = true := by
  have h : (match readT "one ( )", readT "= @" with
    | some r1, some r2 => SeqAt.shaped (.list [r1.data, r2.data, .bool false, .bool true])
    | _, _ => false) = true := by decide +kernel
  rw [h1, h2] at h
  exact h
abbrev NL : List Str := ["_law_script", "_law_at", "_law_urn_here", "_law_turn", "_law_odd", "_law_told_here", "_law_store", "_law_shapes"]
theorem scLaw : FnScope NL ["_law_script"] (defScope tLaw) := ⟨rfl, rfl, rfl, by decide +kernel, rfl, by decide +kernel, by decide +kernel⟩
end K19
namespace K19
open PySem L2
open L2.My
section
variable {P : Program} {w : World} {K : PySem.W.Frag} {mg : Str → Option Value} {base : Heap}
def spLaw (K : PySem.W.Frag) (Tb : List (Addr × Str)) : Sp := fun vs H Q _ => ∃ (a : Addr) (ns : List Int), vs = [.ref a] ∧ SqL K H a (ns.map V.int) ∧ LamX.Tabs Tb H ∧ ∀ H', Q (.bl true) H'
theorem ok_law {CP CT CA PL f c fPE : Addr} {fd : FuncData} {Tb : List (Addr × Str)} (F : FunC K "law" tLaw f fd c) (TB : LamX.TabB base mg c PL) (hmT : (PL, lamL) ∈ Tb) (huT : ∀ p ∈ Tb, p.1 = PL → p.2 = lamL)
    (T : Bl mg) (hrp : mg "repr" = none) (R : ParC K mg CP fPE) (RT : ErrV K mg "InvalidTree" CT) (RA : ErrV K mg "InvalidArgument" CA) (E3 : Trio K CP CT CA)
    {fU fO fR fF fHo fWr fRe fX : Addr} {fdU fdO fdR fdF fdHo fdWr fdRe fdX : FuncData}
    (dU : Dn P w K mg base CX0 "_law_urn" ["_law_script", "_law_at"] 40 (spUrn K) fU fdU) (dO : Dn P w K mg base CX0 "_law_one" ["_law_urn_here", "_law_items"] 40 spOne fO fdO)
    (GR : FnG P w K mg base 43 fR fdR ["_law_urn_here"] (spRight Tb)) (kR : PySem.W.keepIn K (.ref fR) = true) (bR : Binds K fdR ["_law_urn_here"] []) (gR : mg "_law_right" = some (.ref fR))
    (dF : Dn P w K mg base (L2.CX P w) "fits" ["shape", "tree"] 40 (spFits 40 30 9 CA CT) fF fdF)
    (dHo : Dn P w K mg base (L2.CX P w) "holes" ["shape"] 40 (spHoles 40 30 10 CA "hole") fHo fdHo) (dWr : Dn P w K mg base (L2.CX P w) "write_shape" ["shape"] 40 (spWrite 40 30 25 CA) fWr fdWr)
    (dRe : Dn P w K mg base (L2.CX P w) "read_shape" ["text"] 40 (spRead 40 30 CP) fRe fdRe)
    (FX : Fun K "_law_told" "_law_told" tTold fX fdX) (gX : mg "_law_told" = some (.ref fX)) (bX : Binds K fdX ["_law_call"] []) :
    FnG P w K mg base 44 f fd ["_law_script"] (spLaw K Tb) := by
  obtain ⟨ocX, odX, kVX, docX, pmX, anX, cdvX, ctX, oslX, rfl, lkX, hcdX⟩ := FX.ex
  refine F.okG scLaw (fun vs H Q E h => ?_) (fun A outer s H vs Q E hr gd h => ?_)
  · obtain ⟨a, ns, rfl, _⟩ := h
    rfl
  · obtain ⟨a, ns, rfl, hS, tb, k⟩ := h
    have hr40 : Room 40 _ := hr.mono (by decide : 40 ≤ 43)
    have hr42 : Room 42 _ := hr.mono (by decide : 42 ≤ 43)
    have hu : (A.deeper (PyProof.Rows.envOfC "law" (defScope tLaw) s.heap.objs.size f (.ref c))).units + 64 < cLine := by
      have := hr.un
      omega
    have lp : ∀ n : Nat, n ≤ 100 → n ≤ sizeLine := fun n h => Nat.le_trans h (by decide)
    refine ⟨_, (pss_cons (ps_for PassesOwn.never rfl (pi_range1 rfl T.range (pa_cons (pe_callB (call_max2 rfl) (by rfl) T.max (by decide +kernel) (pa_cons pe_int (pa_cons (pe_callB (call_min2 rfl) (by rfl) T.min (by decide +kernel) (pa_cons pe_int (pa_cons (pe_callB call_len_seq (by rfl) T.len PySem.boot_len (pa_cons (pv 0) pa_nil)) pa_nil))) pa_nil))) pa_nil)) (pg_name (i := 1) scLaw.nd rfl (.inl rfl))
      (pss_cons (ps_set (i := 2) scLaw.nd rfl (.inl rfl) (pe_call dU.G hr40 rfl dU.g dU.kp dU.b .nil pass0 (pa_cons (pv 0) (pa_cons (pv 1) pa_nil))))
      (pss_cons (ps_for PassesOwn.never rfl (pi_range1 rfl T.range (pa_cons pe_int pa_nil)) (pg_name (i := 3) scLaw.nd rfl (.inl rfl)) (pss_one (ps_if (pt_not (pt_val (pe_callG GR hr gd rfl gR kR bR (pa_cons (pv 2) pa_nil)))) (pss_one (ps_ret pe_bl)) pss_nil)))
      (pss_cons (ps_set (i := 4) scLaw.nd rfl (.inr rfl) (pe_call dO.G hr40 rfl dO.g dO.kp dO.b .nil pass0 (pa_cons (pv 2) (pa_cons (pe_lst (pa_cons pe_non (pa_cons pe_int (pa_cons pe_str (pa_cons pe_str (pa_cons (pe_tup pa_nil) (pa_cons (pe_lst pa_nil) (pa_cons pe_dnewK (pa_cons (pe_tup (pa_cons pe_str pa_nil)) (pa_cons (pe_tup (pa_cons pe_str pa_nil)) (pa_cons (pe_tup (pa_cons pe_str (pa_cons pe_str pa_nil))) (pa_cons (pe_tup (pa_cons pe_str (pa_cons pe_int pa_nil))) (pa_cons pe_bl pa_nil))))))))))))) pa_nil))))
      (pss_cons (ps_set (i := 5) scLaw.nd rfl (.inl rfl) (pe_lst (pa_cons (LamX.pe_lamcall (T := Tb) (k := 40) (a := "_law_call") (Ng := ["_law_call", "e"]) rfl gX FX.kp lkX hcdX bX scTold rfl (.inl rfl) (word_gives R RT RA E3 hrp) TB rfl hmT huT hr42 (LamX.lamS_by (show LamX.lamSB (defScope tLaw) _ = true by decide +kernel)) (by rfl) (fun _ _ _ _ _ => by rfl) (fun A2 outer2 s2 H2 E2 f2 c2 hr2 => pe_callS dF.G hr2 rfl dF.g dF.kp dF.b (fun σ => passAt (takes_of rfl rfl rfl rfl) σ) (pa_cons (pv 4) (pa_cons (pv 4) pa_nil)))) pa_nil)))
      (pss_cons (ps_expr (pe_bm PySem.F.plainAttrs_list PySem.F.slot_list_append PySem.F.type_list_append mt_append (pv 5) (pa_cons (LamX.pe_lamcall (T := Tb) (k := 40) (a := "_law_call") (Ng := ["_law_call", "e"]) rfl gX FX.kp lkX hcdX bX scTold rfl (.inl rfl) (word_gives R RT RA E3 hrp) TB rfl hmT huT hr42 (LamX.lamS_by (show LamX.lamSB (defScope tLaw) _ = true by decide +kernel)) (by rfl) (fun _ _ _ _ _ => by rfl) (fun A2 outer2 s2 H2 E2 f2 c2 hr2 => pe_callS dHo.G hr2 rfl dHo.g dHo.kp dHo.b (fun σ => passAt (takes_of rfl rfl rfl rfl) σ) (pa_cons (pv 4) pa_nil))) pa_nil)))
      (pss_cons (ps_expr (pe_bm PySem.F.plainAttrs_list PySem.F.slot_list_append PySem.F.type_list_append mt_append (pv 5) (pa_cons (LamX.pe_lamcall (T := Tb) (k := 40) (a := "_law_call") (Ng := ["_law_call", "e"]) rfl gX FX.kp lkX hcdX bX scTold rfl (.inl rfl) (word_gives R RT RA E3 hrp) TB rfl hmT huT hr42 (LamX.lamS_by (show LamX.lamSB (defScope tLaw) _ = true by decide +kernel)) (by rfl) (fun _ _ _ _ _ => by rfl) (fun A2 outer2 s2 H2 E2 f2 c2 hr2 => pe_callS dWr.G hr2 rfl dWr.g dWr.kp dWr.b (fun σ => passAt (takes_of rfl rfl rfl rfl) σ) (pa_cons (pv 4) pa_nil))) pa_nil)))
      (pss_cons (ps_expr (pe_bm PySem.F.plainAttrs_list PySem.F.slot_list_append PySem.F.type_list_append mt_append (pv 5) (pa_cons (LamX.pe_lamcall (T := Tb) (k := 40) (a := "_law_call") (Ng := ["_law_call", "e"]) rfl gX FX.kp lkX hcdX bX scTold rfl (.inl rfl) (word_gives R RT RA E3 hrp) TB rfl hmT huT hr42 (LamX.lamS_by (show LamX.lamSB (defScope tLaw) _ = true by decide +kernel)) (by rfl) (fun _ _ _ _ _ => by rfl) (fun A2 outer2 s2 H2 E2 f2 c2 hr2 => pe_callS dF.G hr2 rfl dF.g dF.kp dF.b (fun σ => passAt (takes_of rfl rfl rfl rfl) σ) (pa_cons (pe_tup (pa_cons pe_str pa_nil)) (pa_cons (pv 4) pa_nil)))) pa_nil)))
      (pss_cons (ps_expr (pe_bm PySem.F.plainAttrs_list PySem.F.slot_list_append PySem.F.type_list_append mt_append (pv 5) (pa_cons (LamX.pe_lamcall (T := Tb) (k := 40) (a := "_law_call") (Ng := ["_law_call", "e"]) rfl gX FX.kp lkX hcdX bX scTold rfl (.inl rfl) (word_gives R RT RA E3 hrp) TB rfl hmT huT hr42 (LamX.lamS_by (show LamX.lamSB (defScope tLaw) _ = true by decide +kernel)) (by rfl) (fun _ _ _ _ _ => by rfl) (fun A2 outer2 s2 H2 E2 f2 c2 hr2 => pe_callS dRe.G hr2 rfl dRe.g dRe.kp dRe.b (fun σ => passAt (takes_of rfl rfl rfl rfl) σ) (pa_cons (pv 4) pa_nil))) pa_nil)))
      (pss_one (ps_if (pt_cmpR (op_neD hu) (pv 5) (pe_op op_cat (pe_op op_rep (pe_lst (pa_cons pe_str pa_nil)) pe_int) (pe_lst (pa_cons pe_str (pa_cons pe_str pa_nil)))) (nomark _)) (pss_one (ps_ret pe_bl)) pss_nil)))))))))))
      (pss_cons (ps_set (i := 5) scLaw.nd rfl (.inl rfl) (pe_lst (pa_cons (LamX.pe_lamcall (T := Tb) (k := 40) (a := "_law_call") (Ng := ["_law_call", "e"]) rfl gX FX.kp lkX hcdX bX scTold rfl (.inl rfl) (word_gives R RT RA E3 hrp) TB rfl hmT huT hr42 (LamX.lamS_by (show LamX.lamSB (defScope tLaw) _ = true by decide +kernel)) (by rfl) (fun _ _ _ _ _ => by rfl) (fun A2 outer2 s2 H2 E2 f2 c2 hr2 => pe_callS dRe.G hr2 rfl dRe.g dRe.kp dRe.b (fun σ => passAt (takes_of rfl rfl rfl rfl) σ) (pa_cons pe_str pa_nil))) pa_nil)))
      (pss_cons (ps_expr (pe_bm PySem.F.plainAttrs_list PySem.F.slot_list_append PySem.F.type_list_append mt_append (pv 5) (pa_cons (LamX.pe_lamcall (T := Tb) (k := 40) (a := "_law_call") (Ng := ["_law_call", "e"]) rfl gX FX.kp lkX hcdX bX scTold rfl (.inl rfl) (word_gives R RT RA E3 hrp) TB rfl hmT huT hr42 (LamX.lamS_by (show LamX.lamSB (defScope tLaw) _ = true by decide +kernel)) (by rfl) (fun _ _ _ _ _ => by rfl) (fun A2 outer2 s2 H2 E2 f2 c2 hr2 => pe_callS dRe.G hr2 rfl dRe.g dRe.kp dRe.b (fun σ => passAt (takes_of rfl rfl rfl rfl) σ) (pa_cons pe_str pa_nil))) pa_nil)))
      (pss_cons (ps_expr (pe_bm PySem.F.plainAttrs_list PySem.F.slot_list_append PySem.F.type_list_append mt_append (pv 5) (pa_cons (LamX.pe_lamcall (T := Tb) (k := 40) (a := "_law_call") (Ng := ["_law_call", "e"]) rfl gX FX.kp lkX hcdX bX scTold rfl (.inl rfl) (word_gives R RT RA E3 hrp) TB rfl hmT huT hr42 (LamX.lamS_by (show LamX.lamSB (defScope tLaw) _ = true by decide +kernel)) (by rfl) (fun _ _ _ _ _ => by rfl) (fun A2 outer2 s2 H2 E2 f2 c2 hr2 => pe_callS dRe.G hr2 rfl dRe.g dRe.kp dRe.b (fun σ => passAt (takes_of rfl rfl rfl rfl) σ) (pa_cons pe_str pa_nil))) pa_nil)))
      (pss_cons (ps_expr (pe_bm PySem.F.plainAttrs_list PySem.F.slot_list_append PySem.F.type_list_append mt_append (pv 5) (pa_cons (LamX.pe_lamcall (T := Tb) (k := 40) (a := "_law_call") (Ng := ["_law_call", "e"]) rfl gX FX.kp lkX hcdX bX scTold rfl (.inl rfl) (word_gives R RT RA E3 hrp) TB rfl hmT huT hr42 (LamX.lamS_by (show LamX.lamSB (defScope tLaw) _ = true by decide +kernel)) (by rfl) (fun _ _ _ _ _ => by rfl) (fun A2 outer2 s2 H2 E2 f2 c2 hr2 => pe_callS dRe.G hr2 rfl dRe.g dRe.kp dRe.b (fun σ => passAt (takes_of rfl rfl rfl rfl) σ) (pa_cons pe_str pa_nil))) pa_nil)))
      (pss_cons (ps_expr (pe_bm PySem.F.plainAttrs_list PySem.F.slot_list_append PySem.F.type_list_append mt_append (pv 5) (pa_cons (LamX.pe_lamcall (T := Tb) (k := 40) (a := "_law_call") (Ng := ["_law_call", "e"]) rfl gX FX.kp lkX hcdX bX scTold rfl (.inl rfl) (word_gives R RT RA E3 hrp) TB rfl hmT huT hr42 (LamX.lamS_by (show LamX.lamSB (defScope tLaw) _ = true by decide +kernel)) (by rfl) (fun _ _ _ _ _ => by rfl) (fun A2 outer2 s2 H2 E2 f2 c2 hr2 => pe_callS dRe.G hr2 rfl dRe.g dRe.kp dRe.b (fun σ => passAt (takes_of rfl rfl rfl rfl) σ) (pa_cons pe_str pa_nil))) pa_nil)))
      (pss_cons (ps_set (i := 6) scLaw.nd rfl (.inl rfl) (pe_tup (pa_cons pe_str (pa_cons pe_str (pa_cons pe_str (pa_cons pe_int (pa_cons pe_int (pa_cons (pe_tup (pa_cons pe_str (pa_cons pe_str (pa_cons pe_int pa_nil)))) pa_nil))))))))
      (pss_cons (ps_set (i := 7) scLaw.nd rfl (.inl rfl) (pe_lst (pa_cons (pe_call dRe.G hr40 rfl dRe.g dRe.kp dRe.b .nil passL (pa_cons pe_str pa_nil)) (pa_cons (pe_call dRe.G hr40 rfl dRe.g dRe.kp dRe.b .nil passL (pa_cons pe_str pa_nil)) (pa_cons (pe_call dF.G hr40 rfl dF.g dF.kp dF.b .nil passL (pa_cons (pe_tup (pa_cons pe_str pa_nil)) (pa_cons (pv 6) pa_nil))) (pa_cons (pe_call dF.G hr40 rfl dF.g dF.kp dF.b .nil passL (pa_cons (pe_tup (pa_cons pe_str (pa_cons (pe_tup (pa_cons pe_str pa_nil)) pa_nil))) (pa_cons (pv 6) pa_nil))) pa_nil))))))
      (pss_one (ps_ret (pe_and (pe_cmpR (op_eqD hu) (pv 5) (pe_op op_rep (pe_lst (pa_cons pe_str pa_nil)) pe_int) (nomark _)) (pe_one (pe_cmpR (op_eqD hu) (pv 7) (pe_lst (pa_cons (pe_tup (pa_cons pe_str (pa_cons pe_str pa_nil))) (pa_cons (pe_tup (pa_cons pe_str (pa_cons (pe_tup (pa_cons pe_str pa_nil)) pa_nil))) (pa_cons pe_bl (pa_cons pe_bl pa_nil))))) (nomark _)))))))))))))), ?_⟩
    have extN_of : ∀ {K1 K2 H' : Hp} {p : Addr}, Same K1 K2 → K1 p = none → ButN p K2 H' → LamX.ExtN K1 H' := fun s np b q u e t => b q (ne_of_none e np) u (s q u e) t
    have hT1 : SeqAt.shaped (.list [.str "argument", .str "argument", .str "argument", .str "tree", .str "parse None"]) = true := by decide +kernel
    have hE1 : (!PyData.eqv (.list [.str "argument", .str "argument", .str "argument", .str "tree", .str "parse None"]) (.list [.str "argument", .str "argument", .str "argument", .str "tree", .str "parse None"])) = false := by
      rw [eqv_same hT1]
      rfl
    refine ⟨_, rfl, a, _, rfl, .inl hS, _, _, rfl, _, _, rfl, _, rfl, ?_, ?_, for_it walk_range (fun i σ H' => ∃ o1 o2 o3 o4 o5, σ = [some (.ref a), o1, o2, o3, o4, o5, none, none] ∧ LamX.ExtN H H' ∧ LamX.Tabs Tb H')
      ⟨none, none, none, none, none, rfl, LamX.ExtN.refl H, tb⟩ (fun _ _ _ _ _ => trivial) ?_ ?_⟩
    · split <;> split <;> omega
    · split <;> split <;> omega
    · rintro i x σ K0 K1 hi ⟨o1, o2, o3, o4, o5, rfl, n0, tb0⟩ ⟨rfl, rfl⟩
      have i8 : i < 100 := by
        revert hi
        split <;> split <;> omega
      refine ⟨_, rfl, _, rfl, a, ns, i, ?_, seqL_ext hS n0, i8, fun p K2 np s02 lo => ?_⟩
      · have z : (0 : Int) + (i : Int) = (i : Int) := by omega
        show [V.ref a, V.int (0 + (i : Int))] = _
        rw [z]
      have tb2 := tb0.ext s02
      refine ⟨6, rfl, by decide, by decide, for_it walk_range (fun i σ H' => ∃ o1 o3, σ = [some (.ref a), o1, some (.ref p), o3, o4, o5, none, none] ∧ Urn H' p ∧ ButN p K2 H' ∧ LamX.Tabs Tb H')
        ⟨_, _, rfl, lo, ButN.of .refl, tb2⟩ (fun _ _ _ _ _ => trivial) ?_ ?_⟩
      · rintro i2 x2 σ K3 K4 hi2 ⟨o1', o3', rfl, lo3, bn3, tb3⟩ ⟨rfl, rfl⟩
        exact ⟨_, rfl, p, rfl, lo3, tb3, fun K5 lo5 bn5 tb5 => ⟨_, rfl, iteF ⟨_, _, rfl, lo5, bn3.trans bn5, tb5⟩⟩⟩
      · rintro σ K3 ⟨o1', o3', rfl, lo3, bn3, tb3⟩
        refine ⟨_, rfl, ?_⟩
        refine ⟨lp 0 (by decide), fun d1 nd1 => ?_⟩
        have s_d1 : Same K3 (upd K3 d1 (.tup [])) := grow nd1
        have e_d1 : (upd K3 d1 (.tup [])) d1 = some (.tup []) := upd_same
        revert s_d1 e_d1
        generalize upd K3 d1 (.tup []) = M1
        intro s_d1 e_d1
        refine ⟨lp 0 (by decide), fun d2 nd2 => ?_⟩
        have s_d2 : Same M1 (upd M1 d2 (.lst [])) := grow nd2
        have e_d2 : (upd M1 d2 (.lst [])) d2 = some (.lst []) := upd_same
        revert s_d2 e_d2
        generalize upd M1 d2 (.lst []) = M2
        intro s_d2 e_d2
        intro d3 nd3
        have s_d3 : Same M2 (upd M2 d3 (.dK [])) := grow nd3
        have e_d3 : (upd M2 d3 (.dK [])) d3 = some (.dK []) := upd_same
        revert s_d3 e_d3
        generalize upd M2 d3 (.dK []) = M3
        intro s_d3 e_d3
        refine ⟨lp 1 (by decide), fun d4 nd4 => ?_⟩
        have s_d4 : Same M3 (upd M3 d4 (.tup [.str "at"])) := grow nd4
        have e_d4 : (upd M3 d4 (.tup [.str "at"])) d4 = some (.tup [.str "at"]) := upd_same
        revert s_d4 e_d4
        generalize upd M3 d4 (.tup [.str "at"]) = M4
        intro s_d4 e_d4
        refine ⟨lp 1 (by decide), fun d5 nd5 => ?_⟩
        have s_d5 : Same M4 (upd M4 d5 (.tup [.str "store"])) := grow nd5
        have e_d5 : (upd M4 d5 (.tup [.str "store"])) d5 = some (.tup [.str "store"]) := upd_same
        revert s_d5 e_d5
        generalize upd M4 d5 (.tup [.str "store"]) = M5
        intro s_d5 e_d5
        refine ⟨lp 2 (by decide), fun d6 nd6 => ?_⟩
        have s_d6 : Same M5 (upd M5 d6 (.tup [.str "op", .str "A"])) := grow nd6
        have e_d6 : (upd M5 d6 (.tup [.str "op", .str "A"])) d6 = some (.tup [.str "op", .str "A"]) := upd_same
        revert s_d6 e_d6
        generalize upd M5 d6 (.tup [.str "op", .str "A"]) = M6
        intro s_d6 e_d6
        refine ⟨lp 2 (by decide), fun d7 nd7 => ?_⟩
        have s_d7 : Same M6 (upd M6 d7 (.tup [.str "hole", .int 1])) := grow nd7
        have e_d7 : (upd M6 d7 (.tup [.str "hole", .int 1])) d7 = some (.tup [.str "hole", .int 1]) := upd_same
        revert s_d7 e_d7
        generalize upd M6 d7 (.tup [.str "hole", .int 1]) = M7
        intro s_d7 e_d7
        have f_d1 := s_d7 _ _ (s_d6 _ _ (s_d5 _ _ (s_d4 _ _ (s_d3 _ _ (s_d2 _ _ (e_d1))))))
        have f_d2 := s_d7 _ _ (s_d6 _ _ (s_d5 _ _ (s_d4 _ _ (s_d3 _ _ (e_d2)))))
        have f_d3 := s_d7 _ _ (s_d6 _ _ (s_d5 _ _ (s_d4 _ _ (e_d3))))
        have f_d4 := s_d7 _ _ (s_d6 _ _ (s_d5 _ _ (e_d4)))
        have f_d5 := s_d7 _ _ (s_d6 _ _ (e_d5))
        have f_d6 := s_d7 _ _ (e_d6)
        have f_d7 := e_d7
        have sM : Same K3 M7 := (((((s_d1.trans s_d2).trans s_d3).trans s_d4).trans s_d5).trans s_d6).trans s_d7
        obtain ⟨b1, b2, b3, b4⟩ := bad1
        have odds : ∀ x ∈ [V.non, .int 0, .str "", .str "add", .ref d1, .ref d2, .ref d3, .ref d4, .ref d5, .ref d6, .ref d7, .bl true], Odd M7 x := by
          intro x hx
          simp only [List.mem_cons, List.not_mem_nil, or_false] at hx
          rcases hx with rfl | rfl | rfl | rfl | rfl | rfl | rfl | rfl | rfl | rfl | rfl | rfl
          · exact .flat .non rfl (fun z q => nomatch q) (fun z q => nomatch q)
          · exact .flat (.int 0 (by decide)) rfl (fun z q => nomatch q) (fun z q => nomatch q)
          · exact .flat (.str _ (by decide +kernel)) rfl (fun z q => by cases q; exact b1) (fun z q => by cases q; exact b2)
          · exact .flat (.str _ (by decide +kernel)) rfl (fun z q => by cases q; exact b3) (fun z q => by cases q; exact b4)
          · exact .tup f_d1 (by simp) (fun x hx => nomatch hx) (fun f => rfl) (fun f => rfl)
          · exact .flat (.lst f_d2) (by simp only [tupV, f_d2]) (fun z q => nomatch q) (fun z q => nomatch q)
          · exact .flat (.dct f_d3) (by simp only [tupV, f_d3]) (fun z q => nomatch q) (fun z q => nomatch q)
          · exact .tup f_d4 (by simp) (fun x hx => by rw [List.mem_singleton.mp hx]; exact .str _ (by decide +kernel)) (fun f => rfl) (fun f => rfl)
          · exact .tup f_d5 (by simp) (fun x hx => by rw [List.mem_singleton.mp hx]; exact .str _ (by decide +kernel)) (fun f => rfl) (fun f => rfl)
          · refine .tup f_d6 (by simp) (fun x hx => ?_) (fun f => rfl) (fun f => rfl)
            simp only [List.mem_cons, List.not_mem_nil, or_false] at hx
            rcases hx with rfl | rfl
            · exact .str _ (by decide +kernel)
            · exact .str _ (by decide +kernel)
          · refine .tup f_d7 (by simp) (fun x hx => ?_) (fun f => rfl) (fun f => rfl)
            simp only [List.mem_cons, List.not_mem_nil, or_false] at hx
            rcases hx with rfl | rfl
            · exact .str _ (by decide +kernel)
            · exact .int 1 (by decide)
          · exact .flat (.bl true) rfl (fun z q => nomatch q) (fun z q => nomatch q)
        have loM := lo3.same sM
        refine ⟨lp 12 (by decide), fun l nl => ?_⟩
        refine ⟨p, l, _, rfl, upd_same, by simp, by simp, loM.ne nl, loM.same (grow nl), fun x hx K5 lo5 u5 => ?_⟩
        have od : Odd K5 x := ((odds x hx).kp (.of (grow nl))).kp ((loM.same (grow nl)).kp lo5 u5)
        have b35 : But p K3 K5 := ((But.of sM).trans (.of (grow nl))).trans u5
        have tb5 : LamX.Tabs Tb K5 := tabs_but tb3 b35 lo3.isL
        have x05 : LamX.ExtN K1 K5 := extN_of s02 np (bn3.trans (.of b35))
        clear u5 nl odds hx f_d1 f_d2 f_d3 f_d4 f_d5 f_d6 f_d7 sM loM
        refine ⟨tb5, fun G0 z0 t0 => ?_⟩
        have g0x : LamX.ExtN K5 G0 := z0
        have od0 := od.kp (.ext g0x)
        refine ⟨_, rfl, _, rfl, x, x, rfl, od0.tv, od0.tv, (fun _ Z0 y0 => .inr (.inr ⟨rfl, ?_⟩)), (fun c => absurd c (by rw [od0.sh]; exact Bool.noConfusion)), (fun c => absurd c (by rw [od0.sh]; exact Bool.noConfusion))⟩
        have q0 : LamX.ExtN K5 Z0 := g0x.trans (.of y0)
        have w0 := t0.ext y0
        refine ⟨lp 1 (by decide), fun D nD => ?_⟩
        have g1 : Got Tb Z0 D [.str "argument"] (upd Z0 D (.lst [.str "argument"])) := Got.start (LamX.ExtN.refl Z0) nD nD w0
        revert g1
        generalize upd Z0 D (.lst [.str "argument"]) = J1
        intro g1
        refine ⟨_, rfl, .inl ⟨rfl, _, SqL.of g1.here⟩, g1.tb, fun G1 z1 t1 => ?_⟩
        have h1 := g1.on z1 t1
        have g1x : LamX.ExtN K5 G1 := q0.trans h1.ext
        have od1 := od.kp (.ext g1x)
        refine ⟨_, rfl, x, rfl, od1.tv, (fun _ Z1 y1 => .inr (.inr ⟨rfl, ?_⟩)), (fun c => absurd c (by rw [od1.sh]; exact Bool.noConfusion))⟩
        have j1 := h1.same y1
        refine ⟨D, _, _, rfl, rfl, j1.here, lp 2 (by decide), ?_⟩
        have g2 : Got Tb Z0 D [.str "argument", .str "argument"] (upd Z1 D (.lst ([.str "argument"] ++ [.str "argument"]))) := j1.put
        revert g2
        generalize upd Z1 D (.lst ([.str "argument"] ++ [.str "argument"])) = J2
        intro g2
        refine ⟨_, rfl, .inl ⟨rfl, _, SqL.of g2.here⟩, g2.tb, fun G2 z2 t2 => ?_⟩
        have h2 := g2.on z2 t2
        have g2x : LamX.ExtN K5 G2 := q0.trans h2.ext
        have od2 := od.kp (.ext g2x)
        refine ⟨_, rfl, x, rfl, od2.tv, (fun _ Z2 y2 => .inr (.inr ⟨rfl, ?_⟩)), (fun c => absurd c (by rw [od2.sh]; exact Bool.noConfusion))⟩
        have j2 := h2.same y2
        refine ⟨D, _, _, rfl, rfl, j2.here, lp 3 (by decide), ?_⟩
        have g3 : Got Tb Z0 D [.str "argument", .str "argument", .str "argument"] (upd Z2 D (.lst ([.str "argument", .str "argument"] ++ [.str "argument"]))) := j2.put
        revert g3
        generalize upd Z2 D (.lst ([.str "argument", .str "argument"] ++ [.str "argument"])) = J3
        intro g3
        refine ⟨_, rfl, .inl ⟨rfl, _, SqL.of g3.here⟩, g3.tb, fun G3 z3 t3 => ?_⟩
        have h3 := g3.on z3 t3
        have g3x : LamX.ExtN K5 G3 := q0.trans h3.ext
        have od3 := od.kp (.ext g3x)
        refine ⟨lp 1 (by decide), fun th nth => ?_⟩
        have sth : Same G3 (upd G3 th (.tup [.str "hole"])) := grow nth
        have eth : (upd G3 th (.tup [.str "hole"])) th = some (.tup [.str "hole"]) := upd_same
        revert sth eth
        generalize upd G3 th (.tup [.str "hole"]) = G3h
        intro sth eth
        have rh : RSh G3h (.ref th) .hole := .hole eth
        have th3 : Tv G3h 40 30 (.ref th) := rh.tv (n := 30) (by decide) (by decide)
        have sh3 : shapeB G3h (.ref th) = true := by
          rw [rh.shapeB th3]
          rfl
        have odh := od3.kp (.of sth)
        refine ⟨_, rfl, _, x, rfl, th3, odh.tv, (fun c => absurd c (by rw [sh3]; exact Bool.noConfusion)), (fun _ _ _ Z3 y3h => .inr (.inl ⟨rfl, ?_⟩)), fun _ c => absurd c (by rw [odh.tr, odh.st]; simp)⟩
        have y3 := sth.trans y3h
        have j3 := h3.same y3
        refine ⟨D, _, _, rfl, rfl, j3.here, lp 4 (by decide), ?_⟩
        have g4 : Got Tb Z0 D [.str "argument", .str "argument", .str "argument", .str "tree"] (upd Z3 D (.lst ([.str "argument", .str "argument", .str "argument"] ++ [.str "tree"]))) := j3.put
        revert g4
        generalize upd Z3 D (.lst ([.str "argument", .str "argument", .str "argument"] ++ [.str "tree"])) = J4
        intro g4
        refine ⟨_, rfl, .inl ⟨rfl, _, SqL.of g4.here⟩, g4.tb, fun G4 z4 t4 => ?_⟩
        have h4 := g4.on z4 t4
        have g4x : LamX.ExtN K5 G4 := q0.trans h4.ext
        have od4 := od.kp (.ext g4x)
        refine ⟨_, rfl, x, rfl, od4.tv, od4.ok, (fun _ => fun Ge d se ne => .inl ⟨rfl, d, rfl, upd_same, ?_⟩), (fun z s' ez es => absurd es (by rw [od4.no z ez]; exact fun q => nomatch q))⟩
        have y4 : Same G4 (upd Ge d (.xd [(("line" : Str), .non)])) := se.trans (grow ne)
        revert y4
        generalize upd Ge d (.xd [(("line" : Str), .non)]) = Z4
        intro y4
        have j4 := h4.same y4
        refine ⟨D, _, _, rfl, rfl, j4.here, lp 5 (by decide), ?_⟩
        have g5 : Got Tb Z0 D [.str "argument", .str "argument", .str "argument", .str "tree", .str "parse None"] (upd Z4 D (.lst ([.str "argument", .str "argument", .str "argument", .str "tree"] ++ [.str "parse None"]))) := j4.put
        revert g5
        generalize upd Z4 D (.lst ([.str "argument", .str "argument", .str "argument", .str "tree"] ++ [.str "parse None"])) = J5
        intro g5
        refine ⟨_, rfl, lp 1 (by decide), fun p1 np1 => ?_⟩
        have v1 := g5.same (grow (o := .lst [.str "argument"]) np1)
        refine ⟨p1, 3, _, rfl, rfl, upd_same, by decide, by decide, by decide, fun p2 np2 => ?_⟩
        have v2 := v1.same (grow (o := .lst (List.replicate (3 : Int).toNat [V.str "argument"]).flatten) np2)
        refine ⟨lp 2 (by decide), fun p3 np3 => ?_⟩
        have v3 := v2.same (grow (o := .lst [.str "tree", .str "parse None"]) np3)
        refine ⟨p2, p3, _, _, rfl, rfl, grow np3 _ _ upd_same, upd_same, by decide, fun p4 np4 => ?_⟩
        have v4 := v3.same (grow (o := .lst ((List.replicate (3 : Int).toNat [V.str "argument"]).flatten ++ [.str "tree", .str "parse None"])) np4)
        refine ⟨_, .list [.str "argument", .str "argument", .str "argument", .str "tree", .str "parse None"], .lst (SqL.of v4.here) (dp_strs ["argument", "argument", "argument", "tree", "parse None"]), .lst (SqL.of upd_same) (dp_strs ["argument", "argument", "argument", "tree", "parse None"]), hT1, hT1, _, rfl, ?_⟩
        refine iteFe hE1 ?_
        exact ⟨_, _, _, _, _, rfl, n0.trans (x05.trans (q0.trans v4.ext)), v4.tb⟩
    · rintro σ K3 ⟨o1, o2, o3, o4, o5, rfl, n0, tb0⟩

      refine ⟨tb0, fun G0 z0 t0 => ?_⟩
      obtain ⟨ta0, tn0⟩ := bad2 (z := "add ( _ ) )") (by simp)
      refine ⟨.str "add ( _ ) )", rfl, .str _ (by decide +kernel), (fun z e => by cases e; exact ta0), (fun _ => fun Ge d se ne => .inl ⟨rfl, d, rfl, upd_same, ?_⟩), (fun z s' ez es => by cases ez; rw [tn0] at es; cases es)⟩
      have y0 : Same G0 (upd Ge d (.xd [(("line" : Str), .non)])) := se.trans (grow ne)
      revert y0
      generalize upd Ge d (.xd [(("line" : Str), .non)]) = Z0
      intro y0
      have w0 := t0.ext y0
      refine ⟨lp 1 (by decide), fun D nD => ?_⟩
      have g1 : Got Tb Z0 D [.str "parse None"] (upd Z0 D (.lst [.str "parse None"])) := Got.start (LamX.ExtN.refl Z0) nD nD w0
      revert g1
      generalize upd Z0 D (.lst [.str "parse None"]) = J1
      intro g1
      refine ⟨_, rfl, .inl ⟨rfl, _, SqL.of g1.here⟩, g1.tb, fun G1 z1 t1 => ?_⟩
      have h1 := g1.on z1 t1
      obtain ⟨ta1, tn1⟩ := bad2 (z := "= = _") (by simp)
      refine ⟨.str "= = _", rfl, .str _ (by decide +kernel), (fun z e => by cases e; exact ta1), (fun _ => fun Ge d se ne => .inl ⟨rfl, d, rfl, upd_same, ?_⟩), (fun z s' ez es => by cases ez; rw [tn1] at es; cases es)⟩
      have y1 : Same G1 (upd Ge d (.xd [(("line" : Str), .non)])) := se.trans (grow ne)
      revert y1
      generalize upd Ge d (.xd [(("line" : Str), .non)]) = Z1
      intro y1
      have j1 := h1.same y1
      refine ⟨D, _, _, rfl, rfl, j1.here, lp 2 (by decide), ?_⟩
      have g2 : Got Tb Z0 D [.str "parse None", .str "parse None"] (upd Z1 D (.lst ([.str "parse None"] ++ [.str "parse None"]))) := j1.put
      revert g2
      generalize upd Z1 D (.lst ([.str "parse None"] ++ [.str "parse None"])) = J2
      intro g2
      refine ⟨_, rfl, .inl ⟨rfl, _, SqL.of g2.here⟩, g2.tb, fun G2 z2 t2 => ?_⟩
      have h2 := g2.on z2 t2
      obtain ⟨ta2, tn2⟩ := bad2 (z := "add ( _ _ _ _ )") (by simp)
      refine ⟨.str "add ( _ _ _ _ )", rfl, .str _ (by decide +kernel), (fun z e => by cases e; exact ta2), (fun _ => fun Ge d se ne => .inl ⟨rfl, d, rfl, upd_same, ?_⟩), (fun z s' ez es => by cases ez; rw [tn2] at es; cases es)⟩
      have y2 : Same G2 (upd Ge d (.xd [(("line" : Str), .non)])) := se.trans (grow ne)
      revert y2
      generalize upd Ge d (.xd [(("line" : Str), .non)]) = Z2
      intro y2
      have j2 := h2.same y2
      refine ⟨D, _, _, rfl, rfl, j2.here, lp 3 (by decide), ?_⟩
      have g3 : Got Tb Z0 D [.str "parse None", .str "parse None", .str "parse None"] (upd Z2 D (.lst ([.str "parse None", .str "parse None"] ++ [.str "parse None"]))) := j2.put
      revert g3
      generalize upd Z2 D (.lst ([.str "parse None", .str "parse None"] ++ [.str "parse None"])) = J3
      intro g3
      refine ⟨_, rfl, .inl ⟨rfl, _, SqL.of g3.here⟩, g3.tb, fun G3 z3 t3 => ?_⟩
      have h3 := g3.on z3 t3
      obtain ⟨ta3, tn3⟩ := bad2 (z := "( ) ( )") (by simp)
      refine ⟨.str "( ) ( )", rfl, .str _ (by decide +kernel), (fun z e => by cases e; exact ta3), (fun _ => fun Ge d se ne => .inl ⟨rfl, d, rfl, upd_same, ?_⟩), (fun z s' ez es => by cases ez; rw [tn3] at es; cases es)⟩
      have y3 : Same G3 (upd Ge d (.xd [(("line" : Str), .non)])) := se.trans (grow ne)
      revert y3
      generalize upd Ge d (.xd [(("line" : Str), .non)]) = Z3
      intro y3
      have j3 := h3.same y3
      refine ⟨D, _, _, rfl, rfl, j3.here, lp 4 (by decide), ?_⟩
      have g4 : Got Tb Z0 D [.str "parse None", .str "parse None", .str "parse None", .str "parse None"] (upd Z3 D (.lst ([.str "parse None", .str "parse None", .str "parse None"] ++ [.str "parse None"]))) := j3.put
      revert g4
      generalize upd Z3 D (.lst ([.str "parse None", .str "parse None", .str "parse None"] ++ [.str "parse None"])) = J4
      intro g4
      refine ⟨_, rfl, .inl ⟨rfl, _, SqL.of g4.here⟩, g4.tb, fun G4 z4 t4 => ?_⟩
      have h4 := g4.on z4 t4
      obtain ⟨ta4, tn4⟩ := bad2 (z := "f ( = _ )") (by simp)
      refine ⟨.str "f ( = _ )", rfl, .str _ (by decide +kernel), (fun z e => by cases e; exact ta4), (fun _ => fun Ge d se ne => .inl ⟨rfl, d, rfl, upd_same, ?_⟩), (fun z s' ez es => by cases ez; rw [tn4] at es; cases es)⟩
      have y4 : Same G4 (upd Ge d (.xd [(("line" : Str), .non)])) := se.trans (grow ne)
      revert y4
      generalize upd Ge d (.xd [(("line" : Str), .non)]) = Z4
      intro y4
      have j4 := h4.same y4
      refine ⟨D, _, _, rfl, rfl, j4.here, lp 5 (by decide), ?_⟩
      have g5 : Got Tb Z0 D [.str "parse None", .str "parse None", .str "parse None", .str "parse None", .str "parse None"] (upd Z4 D (.lst ([.str "parse None", .str "parse None", .str "parse None", .str "parse None"] ++ [.str "parse None"]))) := j4.put
      revert g5
      generalize upd Z4 D (.lst ([.str "parse None", .str "parse None", .str "parse None", .str "parse None"] ++ [.str "parse None"])) = J5
      intro g5
      refine ⟨lp 3 (by decide), fun t1 nt1 => ?_⟩
      have q1 : Same J5 (upd J5 t1 (.tup [.str "at", .str "x", .int 1])) := grow nt1
      have f1 : (upd J5 t1 (.tup [.str "at", .str "x", .int 1])) t1 = some (.tup [.str "at", .str "x", .int 1]) := upd_same
      revert q1 f1
      generalize upd J5 t1 (.tup [.str "at", .str "x", .int 1]) = L1
      intro q1 f1
      refine ⟨lp 6 (by decide), fun t2 nt2 => ?_⟩
      have q2 : Same L1 (upd L1 t2 (.tup [.str "store", .str "s", .str "c", .int 1, .int 0, .ref t1])) := grow nt2
      have f2 : (upd L1 t2 (.tup [.str "store", .str "s", .str "c", .int 1, .int 0, .ref t1])) t2 = some (.tup [.str "store", .str "s", .str "c", .int 1, .int 0, .ref t1]) := upd_same
      revert q2 f2
      generalize upd L1 t2 (.tup [.str "store", .str "s", .str "c", .int 1, .int 0, .ref t1]) = L2'
      intro q2 f2
      have gL : Got Tb Z0 D _ L2' := (g5.same q1).same q2
      have rst : RTr L2' (.ref t2) (.store "s" "c" 1 0 (.att "x" 1)) := .store f2 ⟨by decide +kernel, by decide +kernel⟩ (.att (q2 _ _ f1) (by decide +kernel))
      have gst : goodSt (.store "s" "c" 1 0 (.att "x" 1)) = true := by decide +kernel
      obtain ⟨tk1, r1', e1', v1', s1'⟩ := good1
      obtain ⟨tk2, r2', e2', v2', s2'⟩ := good2
      -- the two that are read
      refine ⟨.str "one ( )", rfl, .str _ (by decide +kernel), (fun z e => by cases e; exact tk1), (fun hn => absurd (hn _ rfl) (by rw [e1']; exact fun q => nomatch q)), fun z sa ez es va Ha sva rva => ?_⟩
      cases ez
      rw [e1'] at es
      cases es
      refine ⟨.str "= @", rfl, .str _ (by decide +kernel), (fun z e => by cases e; exact tk2), (fun hn => absurd (hn _ rfl) (by rw [e2']; exact fun q => nomatch q)), fun z sb ez es vb Hb svb rvb => ?_⟩
      cases ez
      rw [e2'] at es
      cases es
      -- the two that fit
      refine ⟨lp 1 (by decide), fun t3 nt3 => ?_⟩
      have q3 : Same Hb (upd Hb t3 (.tup [.str "hole"])) := grow nt3
      have f3 : (upd Hb t3 (.tup [.str "hole"])) t3 = some (.tup [.str "hole"]) := upd_same
      revert q3 f3
      generalize upd Hb t3 (.tup [.str "hole"]) = L3
      intro q3 f3
      have rh : RSh L3 (.ref t3) .hole := .hole f3
      have th : Tv L3 40 30 (.ref t3) := rh.tv (n := 30) (by decide) (by decide)
      have shh : shapeB L3 (.ref t3) = true := by rw [rh.shapeB th]; rfl
      have p23 := (sva.trans svb).trans q3
      have rs3 := rst.on p23
      obtain ⟨ts1, ts2, ts3⟩ := rs3.st gst
      refine ⟨_, rfl, _, _, rfl, th, (ts1.wide (by decide)).upN (by decide), (fun c => absurd c (by rw [shh]; exact Bool.noConfusion)), (fun _ _ c => absurd c (by rw [ts3]; exact Bool.noConfusion)), fun _ _ => ⟨_, _, rh, rs3, by decide, by decide, fun L4 q4 => ?_⟩⟩
      refine ⟨lp 1 (by decide), fun t5 nt5 => ?_⟩
      have q5 : Same L4 (upd L4 t5 (.tup [.str "hole"])) := grow nt5
      have f5 : (upd L4 t5 (.tup [.str "hole"])) t5 = some (.tup [.str "hole"]) := upd_same
      revert q5 f5
      generalize upd L4 t5 (.tup [.str "hole"]) = L5
      intro q5 f5
      refine ⟨lp 2 (by decide), fun t6 nt6 => ?_⟩
      have q6 : Same L5 (upd L5 t6 (.tup [.str "store", .ref t5])) := grow nt6
      have f6 : (upd L5 t6 (.tup [.str "store", .ref t5])) t6 = some (.tup [.str "store", .ref t5]) := upd_same
      revert q6 f6
      generalize upd L5 t6 (.tup [.str "store", .ref t5]) = L6
      intro q6 f6
      have rsh : RSh L6 (.ref t6) (.store .hole) := .store f6 (.hole (q6 _ _ f5))
      have tsh : Tv L6 40 30 (.ref t6) := rsh.tv (n := 30) (by decide) (by decide)
      have shs : shapeB L6 (.ref t6) = true := by rw [rsh.shapeB tsh]; rfl
      have p26 := ((p23.trans q4).trans q5).trans q6
      have rs6 := rst.on p26
      obtain ⟨us1, us2, us3⟩ := rs6.st gst
      refine ⟨_, rfl, _, _, rfl, tsh, (us1.wide (by decide)).upN (by decide), (fun c => absurd c (by rw [shs]; exact Bool.noConfusion)), (fun _ _ c => absurd c (by rw [us3]; exact Bool.noConfusion)), fun _ _ => ⟨_, _, rsh, rs6, by decide, by decide, fun L7 q7 => ?_⟩⟩
      have p27 := p26.trans q7
      have pa7 : Same Ha L7 := ((((svb.trans q3).trans q4).trans q5).trans q6).trans q7
      have pb7 : Same Hb L7 := (((q3.trans q4).trans q5).trans q6).trans q7
      refine ⟨lp 4 (by decide), fun l8 nl8 => ?_⟩
      have q8 : Same L7 (upd L7 l8 (.lst [va, vb, .bl (fit .hole (.store "s" "c" 1 0 (.att "x" 1))), .bl (fit (.store .hole) (.store "s" "c" 1 0 (.att "x" 1)))])) := grow nl8
      have f8 : (upd L7 l8 (.lst [va, vb, .bl (fit .hole (.store "s" "c" 1 0 (.att "x" 1))), .bl (fit (.store .hole) (.store "s" "c" 1 0 (.att "x" 1)))])) l8 = some (.lst [va, vb, .bl (fit .hole (.store "s" "c" 1 0 (.att "x" 1))), .bl (fit (.store .hole) (.store "s" "c" 1 0 (.att "x" 1)))]) := upd_same
      revert q8 f8
      generalize upd L7 l8 (.lst [va, vb, .bl (fit .hole (.store "s" "c" 1 0 (.att "x" 1))), .bl (fit (.store .hole) (.store "s" "c" 1 0 (.att "x" 1)))]) = L8
      intro q8 f8
      have gL8 := gL.same (p27.trans q8)
      -- the end
      have hT2 : SeqAt.shaped (.list [.str "parse None", .str "parse None", .str "parse None", .str "parse None", .str "parse None"]) = true := by decide +kernel
      refine ⟨_, rfl, lp 1 (by decide), fun p1 np1 => ?_⟩
      have v1 := gL8.same (grow (o := .lst [.str "parse None"]) np1)
      refine ⟨p1, 5, _, rfl, rfl, upd_same, by decide, by decide, by decide, fun p2 np2 => ?_⟩
      have v2 := v1.same (grow (o := .lst (List.replicate (5 : Int).toNat [V.str "parse None"]).flatten) np2)
      have q12 : Same L8 (upd (upd L8 p1 (.lst [.str "parse None"])) p2 (.lst (List.replicate (5 : Int).toNat [V.str "parse None"]).flatten)) := (grow np1).trans (grow np2)
      refine ⟨.list [.str "parse None", .str "parse None", .str "parse None", .str "parse None", .str "parse None"], .list [.str "parse None", .str "parse None", .str "parse None", .str "parse None", .str "parse None"], .lst (SqL.of v2.here) (dp_strs ["parse None", "parse None", "parse None", "parse None", "parse None"]), .lst (SqL.of upd_same) (dp_strs ["parse None", "parse None", "parse None", "parse None", "parse None"]), hT2, hT2, _, rfl, ?_⟩
      revert q12
      generalize (upd (upd L8 p1 (.lst [.str "parse None"])) p2 (.lst (List.replicate (5 : Int).toNat [V.str "parse None"]).flatten)) = L9
      intro q12
      refine iteTe (eqv_same hT2) ?_
      refine ⟨_, rfl, lp 2 (by decide), fun t11 nt11 => ?_⟩
      have q11 : Same L9 (upd L9 t11 (.tup [.str "op", .str "one"])) := grow nt11
      have f11 : (upd L9 t11 (.tup [.str "op", .str "one"])) t11 = some (.tup [.str "op", .str "one"]) := upd_same
      revert q11 f11
      generalize upd L9 t11 (.tup [.str "op", .str "one"]) = L11
      intro q11 f11
      refine ⟨lp 1 (by decide), fun t12 nt12 => ?_⟩
      have q13 : Same L11 (upd L11 t12 (.tup [.str "load"])) := grow nt12
      have f13 : (upd L11 t12 (.tup [.str "load"])) t12 = some (.tup [.str "load"]) := upd_same
      revert q13 f13
      generalize upd L11 t12 (.tup [.str "load"]) = L12
      intro q13 f13
      refine ⟨lp 2 (by decide), fun t14 nt14 => ?_⟩
      have q14 : Same L12 (upd L12 t14 (.tup [.str "store", .ref t12])) := grow nt14
      have f14 : (upd L12 t14 (.tup [.str "store", .ref t12])) t14 = some (.tup [.str "store", .ref t12]) := upd_same
      revert q14 f14
      generalize upd L12 t14 (.tup [.str "store", .ref t12]) = L14
      intro q14 f14
      refine ⟨lp 4 (by decide), fun l15 nl15 => ?_⟩
      have q15 : Same L14 (upd L14 l15 (.lst [.ref t11, .ref t14, .bl false, .bl true])) := grow nl15
      have q9 := (((q12.trans q11).trans q13).trans q14).trans q15
      have z1 : fit .hole (.store "s" "c" 1 0 (.att "x" 1)) = false := by decide +kernel
      have z2 : fit (.store .hole) (.store "s" "c" 1 0 (.att "x" 1)) = true := by decide +kernel
      rw [z1, z2] at f8
      refine ⟨.list [r1'.data, r2'.data, .bool false, .bool true], .list [.tuple [.str "op", .str "one"], .tuple [.str "store", .tuple [.str "load"]], .bool false, .bool true], .lst (SqL.of (q9 _ _ f8)) (.cons (rva.on ((pa7.trans q8).trans q9)).dp (.cons (rvb.on ((pb7.trans q8).trans q9)).dp (.cons (.bl _) (.cons (.bl _) .nil)))),
        .lst (SqL.of upd_same) (.cons (.tup (SqT.of (q15 _ _ (q14 _ _ (q13 _ _ f11)))) (.cons (.str _) (.cons (.str _) .nil))) (.cons (.tup (SqT.of (q15 _ _ f14)) (.cons (.str _) (.cons (.tup (SqT.of (q15 _ _ (q14 _ _ f13))) (.cons (.str _) .nil)) .nil))) (.cons (.bl _) (.cons (.bl _) .nil)))), ?_, by decide +kernel, ?_⟩
      · exact good3 e1' e2'
      · have z3 : PyData.eqv (.list [r1'.data, r2'.data, .bool false, .bool true]) (.list [.tuple [.str "op", .str "one"], .tuple [.str "store", .tuple [.str "load"]], .bool false, .bool true]) = true := by
          simp only [PyData.eqv] at v1' v2' ⊢
          simp only [PyData.eqvAll, PyData.eqv, v1', v2']
          rfl
        rw [z3]
        exact k _
end
end K19
namespace K19
open PySem PySem.Spec PySem.Calls L2
open L2.My
/-! as L2.My.walkG, the top's own facts handed on -/
namespace E
open PySem PySem.Spec PyProof.Rows L2 L2.My
theorem walkT {l : PySem.W.OpenLaw} {n k : Nat} {q : Program} {loose : List Str} {XP : (Str → Option Value) → Heap → Prop} {YP : World → Heap → Prop} {d : DefRec} {K : Params → PySem.W.Frag} {x : Str}
    (hn : l.most = some n) (hn2 : n ≤ sizeLine) (hdf : d.params.defaults = []) (hr : Room k callerA) (hY : ∀ (w : World) (h : Heap), YP w h → (K w.params).In h)
    (F : ∀ (w : World) (mg mb : Str → Option Value) (mean : ExcName → Option Value) (fa : Addr) (h : Heap), PyProof.Rows.Top q (PySem.W.looseW q loose) mean mg mb h → YP w h → (K w.params).In h → h.Ns mainGlobals mg → mg d.name = some (.ref fa) → LawG l w (K w.params) k n x mg fa h) :
    PySem.W.WalkO q loose XP YP l.row.toRowW d [] (fun f vs => PySem.call f vs) := by
  refine Att.attach_callB hn hdf fun w s0 s1 mg mb fa o pm cd doc a vs ns G Y ho hd hcd hmg ha hi hlen hbits hg => ?_
  have KX := hY w _ Y
  obtain ⟨fd, cs, sp, hT, nT, hC, hb, hsp, hF⟩ := F w mg mb _ fa _ G.T Y KX G.T.g hmg
  have hl : ns.length ≤ sizeLine := Nat.le_trans hlen hn2
  have hTs : ∀ b ∈ cs.map (·.2), s1.heap.get? b = some tabO := by
    intro b hb
    obtain ⟨p, hp, rfl⟩ := List.mem_map.mp hb
    exact hT p hp
  have nTs : ∀ b ∈ cs.map (·.2), (K w.params).lookup b = none := by
    intro b hb
    obtain ⟨p, hp, rfl⟩ := List.mem_map.mp hb
    exact nT p hp
  have na : a ∉ cs.map (·.2) := by
    intro z
    cases ha.symm.trans (hTs a z)
  obtain ⟨H, B⟩ := begin_ex KX ha hi hl na
  have hok : HOk l.prog w H s1.heap := B.holds ha hi hl hTs
  have kin := B.kin KX nTs
  have gns := B.nsAt ha hTs G.T.g
  have tabs : ∀ p ∈ cs, H p.2 = some (.tbl #[]) := fun p hp => B.tab _ (List.mem_map.mpr ⟨p, hp, rfl⟩)
  have hM : Mod (K w.params) mg (hidT s1.heap H) := ⟨kin, gns, ⟨mb, B.nsAt ha hTs G.T.b, G.T.builtins⟩, let ⟨mc, h1, h2⟩ := G.T.nolimit; ⟨mc, B.nsAt ha hTs h1, h2⟩⟩
  have TB : ∀ p ∈ cs, LamX.TabB (hidT s1.heap H) mg p.1 p.2 := by
    intro p hp
    obtain ⟨oc, us, file, tf, flags, tg, inF, text, tt, e1, r1, r2, r3, r4, r5, r6, r7, r8, hne⟩ := hC p hp
    obtain ⟨bm, ob, b1, b2, b3, b4, b5, b6⟩ := G.T.bmain
    obtain ⟨og, es, ep, eg, dg, _⟩ := G.T.g
    refine ⟨⟨oc, us, file, tf, flags, tg, inF, text, tt, hidT_get e1 (B.off ha hTs e1 ?_ ?_), r1, r2, r3, r4, r5, r6, r7, r8, hne⟩, ⟨bm, ob, b1, b2, ?_, ?_, hidT_get b3 (B.off ha hTs b3 ?_ ?_), b4, b5, b6⟩, ?_⟩
    · rintro rfl
      cases r2
      simp at r3
    · rintro rfl
      cases r2
    · rintro rfl
      cases b3.symm.trans eg
      rw [b6] at dg
      cases dg
    · rintro rfl
      cases b3.symm.trans (hT p hp)
      cases b6
    · rintro rfl
      cases b6
    · rintro rfl
      cases b6
    · intro z
      rw [z] at eg
      cases eg.symm.trans (hT p hp)
      cases dg
  have e0 : Env0 l.prog w (K w.params) mg (hidT s1.heap H) callerA [] s1 H :=
    ⟨rfl, hM, fun b o e => of_hidT e, Nat.le_of_eq (hidT_size _ _), trivial, fun b hb => absurd (show b ∈ ([] : List Addr) from hb) (by simp), hok, .of_eq hg⟩
  refine codeAny_mono ((hF _ kin gns TB).run callerA [] s1 H ⟨[.ref a], []⟩ [.ref a] [.ref a] _ _ hr rfl e0 (hb s1 (.ref a)) (.cons rfl .nil) (hsp H a ns hlen hbits tabs B.scr)) fun r s2 hq => ?_
  match r, hq with
  | .error e, hq => exact (show False from hq).elim
  | .ok .next, hq => exact False.elim hq
  | .ok .brk, hq => exact False.elim hq
  | .ok .cont, hq => exact False.elim hq
  | .ok (.ret u), hq =>
    obtain ⟨v, H2, os, bare, un, hok2, rv, ev⟩ := hq
    obtain rfl : v = .bl true := ev
    obtain rfl : u = Value.bool true := rv
    have grown : ∀ b ∈ cs.map (·.2), ∃ more : Array Value, s2.heap.get? b = some { cls := .none, data := .fields more } := by
      intro b hb
      obtain ⟨more, z⟩ := un.tbls b #[] (B.tab b hb)
      exact ⟨_, hok2 b _ z⟩
    have same : ∀ b o, b ∉ cs.map (·.2) → s1.heap.get? b = some o → s2.heap.get? b = some o := by
      intro b o nb e
      cases qh : H b with
      | none => exact un.keep b o e qh (by intro z; exact absurd (show b ∈ ([] : List Addr) from z) (by simp)) (by simp)
      | some u =>
        rcases B.cas b u qh with ⟨hb, _⟩ | ⟨rfl, _, rfl⟩
        · exact absurd hb nb
        · have z2 := un.frzs b _ _ qh
          obtain ⟨e2, _⟩ := hok2 b _ z2
          cases e.symm.trans ha
          exact e2
    refine ⟨rfl, ⟨fun b o e => ?_, fun b o e => ?_⟩, os, bare⟩
    · by_cases hb : b ∈ cs.map (·.2)
      · obtain ⟨more, hm⟩ := grown b hb
        obtain ⟨p, hp, rfl⟩ := List.mem_map.mp hb
        cases e.symm.trans (hT p hp)
        exact .inr (.inl ⟨((hC p hp).tab (hT p hp)).isCodeTable, rfl, #[], more, rfl, by rw [Array.empty_append]; exact hm⟩)
      · exact .inl (same b o hb e)
    · by_cases hb : b ∈ cs.map (·.2)
      · obtain ⟨more, hm⟩ := grown b hb
        exact ⟨_, hm⟩
      · exact ⟨o, same b o hb e⟩
end E
structure AtTop (K : PySem.W.Frag) (x : Str) (st : Stmt) (f : Addr) (fd : FuncData) : Prop where
  ns : PySem.W.nsIn K mainGlobals x = some (some (.ref f))
  fn : Fun K x x st f fd
theorem atTop {K : PySem.W.Frag} {x : Str} {st : Stmt} {f : Addr} {oc : Value} {od an : Option Addr} {sl : Array (Option Value)} {kV dc pm cd ct : Value} (a : PySem.W.nsIn K mainGlobals x = some (some (.ref f)))
    (l : K.lookup f = some ⟨oc, od, .func (PySem.W.fnOf x x (defArgs st) (defBody st) (defScope st) .none kV dc pm an cd ct), sl⟩) (c : PySem.W.codeIn K cd x = true) (k : PySem.W.keepIn K (.ref f) = true) :
    AtTop K x st f (PySem.W.fnOf x x (defArgs st) (defBody st) (defScope st) .none kV dc pm an cd ct) := ⟨a, fun_mk (st := st) l c k⟩
structure AtTopC (K : PySem.W.Frag) (x : Str) (st : Stmt) (f : Addr) (fd : FuncData) (c : Addr) : Prop where
  ns : PySem.W.nsIn K mainGlobals x = some (some (.ref f))
  fn : FunC K x st f fd c
theorem atTopC {K : PySem.W.Frag} {x : Str} {st : Stmt} {f c : Addr} {oc : Value} {od an : Option Addr} {sl : Array (Option Value)} {kV dc pm ct : Value} (a : PySem.W.nsIn K mainGlobals x = some (some (.ref f)))
    (l : K.lookup f = some ⟨oc, od, .func (PySem.W.fnOf x x (defArgs st) (defBody st) (defScope st) .none kV dc pm an (.ref c) ct), sl⟩) (cc : PySem.W.codeIn K (.ref c) x = true) (k : PySem.W.keepIn K (.ref f) = true) :
    AtTopC K x st f (PySem.W.fnOf x x (defArgs st) (defBody st) (defScope st) .none kV dc pm an (.ref c) ct) c := ⟨a, ⟨oc, od, kV, dc, pm, an, ct, sl, rfl, l, cc⟩, k⟩
structure Consts (K : PySem.W.Frag) : Prop where
  long : ∃ t, PySem.W.nsIn K mainGlobals "LONG" = some (some (.int (10 ^ 30) t))
  l8 : ∃ t, PySem.W.nsIn K mainGlobals "MAX_LETTERS" = some (some (.int 8 t))
  ls : ∃ t, PySem.W.nsIn K mainGlobals "LETTERS" = some (some (.str "abcdefghijklmnopqrstuvwxyz" t))
  tr : ∃ t, PySem.W.nsIn K mainGlobals "MAX_TREES" = some (some (.int 3 t))
  di : ∃ t, PySem.W.nsIn K mainGlobals "MAX_DISTANCE" = some (some (.int 3 t))
  lv : ∃ t, PySem.W.nsIn K mainGlobals "MAX_LEVELS" = some (some (.int 4 t))
  sh : ∃ t, PySem.W.nsIn K mainGlobals "MAX_SHAPE" = some (some (.int 4 t))
  ss : ∃ t, PySem.W.nsIn K mainGlobals "MAX_SHAPES" = some (some (.int 3 t))
  sg : ∃ t, PySem.W.nsIn K mainGlobals "MAX_SIGNS" = some (some (.int 21 t))
theorem consts {K : PySem.W.Frag} {t0 t1 t2 t3 t4 t5 t6 t7 t8 : Tok} (c0 : PySem.W.nsIn K mainGlobals "LONG" = some (some (.int (10 ^ 30) t0))) (c1 : PySem.W.nsIn K mainGlobals "MAX_LETTERS" = some (some (.int 8 t1))) (c2 : PySem.W.nsIn K mainGlobals "LETTERS" = some (some (.str "abcdefghijklmnopqrstuvwxyz" t2))) (c3 : PySem.W.nsIn K mainGlobals "MAX_TREES" = some (some (.int 3 t3))) (c4 : PySem.W.nsIn K mainGlobals "MAX_DISTANCE" = some (some (.int 3 t4))) (c5 : PySem.W.nsIn K mainGlobals "MAX_LEVELS" = some (some (.int 4 t5))) (c6 : PySem.W.nsIn K mainGlobals "MAX_SHAPE" = some (some (.int 4 t6))) (c7 : PySem.W.nsIn K mainGlobals "MAX_SHAPES" = some (some (.int 3 t7))) (c8 : PySem.W.nsIn K mainGlobals "MAX_SIGNS" = some (some (.int 21 t8))) : Consts K := ⟨⟨_, c0⟩, ⟨_, c1⟩, ⟨_, c2⟩, ⟨_, c3⟩, ⟨_, c4⟩, ⟨_, c5⟩, ⟨_, c6⟩, ⟨_, c7⟩, ⟨_, c8⟩⟩
structure PlV (K : PySem.W.Frag) (C : Addr) : Prop where
  x : PySem.W.excIn K C mroV "ValueError.__new__" = true
  k : PySem.W.keepIn K (.ref C) = true
  b : PySem.W.subIn K (.ref C) (.type "BaseException") = some true
  t : PySem.W.typeIn K (.ref C) = some (.type "type")
  hd : PySem.W.hasDictIn K C = true
theorem mkP {K : PySem.W.Frag} {C f : Addr} {n q' : Str} {N : Addr} {bs bm : List Value} {sn : List Str} {sub : List Value} {ab : Bool} {col : Option Bool} {dd : Option Addr} {k0 k1 k2 k3 k5 : Option Value} {oc : Value} {od : Option Addr} {doc pm : Value} {an : Option Addr} {cd ct : Value} {sl : Array (Option Value)} {p q a b c d : Pos}
    (lc : K.lookup C = some (excClassObj n q' C N bs bm true sn sub ab col dd k0 k1 k2 k3 k5 "ValueError.__new__")) (et : PySem.W.excTail mroV bm = true) (sa : PySem.W.findIn K (.ref C) "__setattr__" = some (some (.builtin "object.__setattr__"))) (no : PySem.W.findIn K (.ref C) "line" = some none) (ini : PySem.W.findIn K (.ref C) "__init__" = some (some (.ref f))) (tf : PySem.W.typeIn K (.ref f) = some (.type "function"))
    (ga : PySem.W.findIn K (.ref C) "__getattribute__" = some (some (.builtin "BaseException.__getattribute__"))) (gg : PySem.W.findIn K (.ref C) "__getattr__" = some none) (sb : PySem.W.subIn K (.ref C) (.type "BaseException") = some true) (hd : PySem.W.hasDictIn K C = true)
    (kp : PySem.W.keepIn K (.ref C) = true) (ty : PySem.W.typeIn K (.ref C) = some (.type "type"))
    (lf : K.lookup f = some ⟨oc, od, .func (PySem.W.fnOf "__init__" "ParseError.__init__" (Own_line.initArgs p q) (Own_line.initBody a b c d) Own_line.initScope .none .none doc pm an cd ct), sl⟩) (cc : PySem.W.codeIn K cd "ParseError.__init__" = true) :
    ∀ mg : Str → Option Value, mg "ParseError" = some (.ref C) → ParC K mg C f := fun mg gl =>
  ⟨gl, ⟨n, q', N, bs, bm, sn, sub, ab, col, dd, k0, k1, k2, k3, k5, lc, et⟩, sa, ga, gg, no, ini, tf, kp, sb, ty, hd, ⟨oc, od, doc, pm, an, cd, ct, sl, p, q, a, b, c, d, lf, cc⟩⟩
theorem all_mk {l : PySem.W.OpenLaw} {w : World} {K : PySem.W.Frag} {h : Heap} {mg : Str → Option Value} {fa c1 P1 c2 P2 CT CA CP iP : Addr} (X : K.In h) (G : h.Ns mainGlobals mg) (hfa : mg "law" = some (.ref fa)) (cs : Consts K)
    (nT : PySem.W.nsIn K mainGlobals "InvalidTree" = some (some (.ref CT))) (nA : PySem.W.nsIn K mainGlobals "InvalidArgument" = some (some (.ref CA))) (nP : PySem.W.nsIn K mainGlobals "ParseError" = some (some (.ref CP)))
    (MT : PlV K CT) (MA : PlV K CA) (EP : ∀ mg : Str → Option Value, mg "ParseError" = some (.ref CP) → ParC K mg CP iP)
    (s1 : PySem.W.subIn K (.ref CP) (.ref CP) = some true) (s2 : PySem.W.subIn K (.ref CT) (.ref CP) = some false) (s3 : PySem.W.subIn K (.ref CT) (.ref CT) = some true) (s4 : PySem.W.subIn K (.ref CA) (.ref CP) = some false) (s5 : PySem.W.subIn K (.ref CA) (.ref CT) = some false) (s6 : PySem.W.subIn K (.ref CA) (.ref CA) = some true)
    (hT1 : PySem.W.CodeHd h c1 P1 ∧ h.get? P1 = some tabO) (hT2 : PySem.W.CodeHd h c2 P2 ∧ h.get? P2 = some tabO) (n1 : K.lookup P1 = none) (n2 : K.lookup P2 = none) (ne : P1 ≠ P2)
    {f_nm f_wh f_ig f_bt f_tr f_wi f_st f_sh f_cw f_ct f_ck f_is f_fi f_do f_wk f_pa f_ho f_ld f_wr f_si f_re f_so f_pt f_ur f_pu f_on f_gr f_me f_be f_hl f_to f_pl f_tx f_ri f_la : Addr} {d_nm d_wh d_ig d_bt d_tr d_wi d_st d_sh d_cw d_ct d_ck d_is d_fi d_do d_wk d_pa d_ho d_ld d_wr d_si d_re d_so d_pt d_ur d_pu d_on d_gr d_me d_be d_hl d_to d_pl d_tx d_ri d_la : FuncData}
    (Dnm : AtTop K "is_name" tName f_nm d_nm) (Dwh : AtTop K "is_whole" tWhole f_wh d_wh) (Dig : AtTop K "is_integer" tInteger f_ig d_ig) (Dbt : AtTop K "is_between" tBetween f_bt d_bt) (Dtr : AtTop K "is_tree" tTree f_tr d_tr) (Dwi : AtTop K "is_tree_within" tWithin f_wi d_wi) (Dst : AtTop K "is_statement" tState f_st d_st) (Dsh : AtTop K "is_shape" tShape f_sh d_sh) (Dcw : AtTop K "count_working" tWorking f_cw d_cw) (Dct : AtTop K "count_together" tTogether f_ct d_ct) (Dck : AtTop K "check_shape" tCheck f_ck d_ck) (Dis : AtTop K "is_store" tIsStore f_is d_is) (Dfi : AtTop K "fits" tFits f_fi d_fi) (Ddo : AtTop K "does_fit" tDoes f_do d_do) (Dwk : AtTop K "walked_shape" tWalked f_wk d_wk) (Dpa : AtTop K "paths_of" tPaths f_pa d_pa) (Dho : AtTop K "holes" tHoles f_ho d_ho) (Dld : AtTop K "loads" tLoads f_ld d_ld) (Dwr : AtTop K "write_shape" tWrite f_wr d_wr) (Dsi : AtTop K "signs_of" tSigns f_si d_si) (Dre : AtTop K "read_shape" tRead f_re d_re) (Dso : AtTop K "shape_of" tShapeOf f_so d_so) (Dpt : AtTop K "read_part" tPart f_pt d_pt) (Dur : AtTop K "_law_urn" tUrn f_ur d_ur) (Dpu : AtTop K "_law_pull" tPull f_pu d_pu) (Don : AtTop K "_law_one" tOne f_on d_on) (Dgr : AtTop K "_law_tree" tGrow f_gr d_gr) (Dme : AtTop K "_law_menu" tMenu f_me d_me) (Dbe : AtTop K "_law_below" tBelow f_be d_be) (Dhl : AtTop K "_law_holes" tHolesL f_hl d_hl) (Dto : AtTop K "_law_told" tTold f_to d_to) (Dpl : AtTop K "_law_paths" tPathsL f_pl d_pl) (Dtx : AtTop K "_law_text" tTextL f_tx d_tx) (Dri : AtTopC K "_law_right" tRight f_ri d_ri c1) (Dla : AtTopC K "law" tLaw f_la d_la c2)
    (z0 : PySem.W.nsIn K mainGlobals "isinstance" = some none) (z1 : PySem.W.nsIn K mainGlobals "int" = some none) (z2 : PySem.W.nsIn K mainGlobals "bool" = some none) (z3 : PySem.W.nsIn K mainGlobals "str" = some none) (z4 : PySem.W.nsIn K mainGlobals "tuple" = some none) (z5 : PySem.W.nsIn K mainGlobals "list" = some none) (z6 : PySem.W.nsIn K mainGlobals "len" = some none) (z7 : PySem.W.nsIn K mainGlobals "all" = some none) (z8 : PySem.W.nsIn K mainGlobals "abs" = some none) (z9 : PySem.W.nsIn K mainGlobals "max" = some none) (z10 : PySem.W.nsIn K mainGlobals "min" = some none) (z11 : PySem.W.nsIn K mainGlobals "range" = some none) (z12 : PySem.W.nsIn K mainGlobals "repr" = some none) (z13 : PySem.W.nsIn K mainGlobals "zip" = some none) (z14 : PySem.W.nsIn K mainGlobals "enumerate" = some none)
    (hb : ∀ (s : Shared) (v : Value), BindsTo s d_la ⟨[v], []⟩ [("_law_script", v)]) :
    LawG l w K 44 63 "_law_script" mg fa h := by
  have e := hfa.symm.trans (PySem.W.mg_of X G Dla.ns)
  have e2 : f_la = fa := by
    cases e
    rfl
  subst e2
  refine ⟨d_la, [(c1, P1), (c2, P2)], spLaw K [(P1, lamR), (P2, lamL)], fun p hp => ?_, fun p hp => ?_, fun p hp => ?_, hb, fun H a ns _ _ ht hS => ⟨a, ns, rfl, hS, fun p hp => ?_, fun _ => rfl⟩, fun base _ _ tb => ?_⟩
  · simp only [List.mem_cons, List.not_mem_nil, or_false] at hp
    rcases hp with rfl | rfl
    · exact hT1.2
    · exact hT2.2
  · simp only [List.mem_cons, List.not_mem_nil, or_false] at hp
    rcases hp with rfl | rfl
    · exact n1
    · exact n2
  · simp only [List.mem_cons, List.not_mem_nil, or_false] at hp
    rcases hp with rfl | rfl
    · exact hT1.1
    · exact hT2.1
  · simp only [List.mem_cons, List.not_mem_nil, or_false] at hp
    rcases hp with rfl | rfl
    · exact LamX.TabS.nil (ht (c1, P1) (by simp))
    · exact LamX.TabS.nil (ht (c2, P2) (by simp))
  have TB1 := tb (c1, P1) (by simp)
  have TB2 := tb (c2, P2) (by simp)
  have u1 : ∀ p ∈ [(P1, lamR), (P2, lamL)], p.1 = P1 → p.2 = lamR := fun p hp e => by
    simp only [List.mem_cons, List.not_mem_nil, or_false] at hp
    rcases hp with rfl | rfl
    · rfl
    · exact absurd e.symm ne
  have u2 : ∀ p ∈ [(P1, lamR), (P2, lamL)], p.1 = P2 → p.2 = lamL := fun p hp e => by
    simp only [List.mem_cons, List.not_mem_nil, or_false] at hp
    rcases hp with rfl | rfl
    · exact absurd e ne
    · rfl
  obtain ⟨⟨t0, a0⟩, ⟨t1, a1⟩, ⟨t2, a2⟩, ⟨t3, a3⟩, ⟨t4, a4⟩, ⟨t5, a5⟩, ⟨t6, a6⟩, ⟨t7, a7⟩, ⟨t8, a8⟩⟩ := cs
  have T1 : Txt mg := ⟨(PySem.W.mg_none_of X G z0), (PySem.W.mg_none_of X G z1), (PySem.W.mg_none_of X G z2), (PySem.W.mg_none_of X G z3), (PySem.W.mg_none_of X G z4), (PySem.W.mg_none_of X G z5), (PySem.W.mg_none_of X G z6), (PySem.W.mg_none_of X G z7), (PySem.W.mg_none_of X G z8), ⟨_, PySem.W.mg_of X G a0⟩, ⟨_, PySem.W.mg_of X G a1⟩, ⟨_, PySem.W.mg_of X G a2⟩⟩
  have T2 : Txt2 mg := ⟨⟨_, PySem.W.mg_of X G a3⟩, ⟨_, PySem.W.mg_of X G a4⟩, ⟨_, PySem.W.mg_of X G a5⟩⟩
  have TBl : Bl mg := ⟨(PySem.W.mg_none_of X G z1), (PySem.W.mg_none_of X G z8), (PySem.W.mg_none_of X G z9), (PySem.W.mg_none_of X G z10), (PySem.W.mg_none_of X G z11), (PySem.W.mg_none_of X G z6), (PySem.W.mg_none_of X G z4), (PySem.W.mg_none_of X G z5), (PySem.W.mg_none_of X G z0)⟩
  have RT : ErrV K mg "InvalidTree" CT := ⟨PySem.W.mg_of X G nT, MT.x, MT.k, MT.b, MT.t⟩
  have RA : ErrV K mg "InvalidArgument" CA := ⟨PySem.W.mg_of X G nA, MA.x, MA.k, MA.b, MA.t⟩
  have RP := EP mg (PySem.W.mg_of X G nP)
  have E3 : Trio K CP CT CA := ⟨PySem.W.exm_ref RP.sub RP.hd RP.ty s1, PySem.W.exm_ref RP.sub RP.hd RP.ty s2, PySem.W.exm_ref MT.b MT.hd MT.t s3, PySem.W.exm_ref RP.sub RP.hd RP.ty s4, PySem.W.exm_ref MT.b MT.hd MT.t s5, PySem.W.exm_ref MA.b MA.hd MA.t s6⟩
  have g_nm : mg "is_name" = some (.ref f_nm) := PySem.W.mg_of X G Dnm.ns
  have b_nm := Dnm.fn.binds (ps := ["value"]) fun _ _ _ _ _ _ us hl => match us, hl with | [_], _ => rfl
  have k_nm := Dnm.fn.kp
  have g_wh : mg "is_whole" = some (.ref f_wh) := PySem.W.mg_of X G Dwh.ns
  have b_wh := Dwh.fn.binds (ps := ["value"]) fun _ _ _ _ _ _ us hl => match us, hl with | [_], _ => rfl
  have k_wh := Dwh.fn.kp
  have g_ig : mg "is_integer" = some (.ref f_ig) := PySem.W.mg_of X G Dig.ns
  have b_ig := Dig.fn.binds (ps := ["value"]) fun _ _ _ _ _ _ us hl => match us, hl with | [_], _ => rfl
  have k_ig := Dig.fn.kp
  have g_bt : mg "is_between" = some (.ref f_bt) := PySem.W.mg_of X G Dbt.ns
  have b_bt := Dbt.fn.binds (ps := ["value", "least", "most"]) fun _ _ _ _ _ _ us hl => match us, hl with | [_, _, _], _ => rfl
  have k_bt := Dbt.fn.kp
  have g_tr : mg "is_tree" = some (.ref f_tr) := PySem.W.mg_of X G Dtr.ns
  have b_tr := Dtr.fn.binds (ps := ["value"]) fun _ _ _ _ _ _ us hl => match us, hl with | [_], _ => rfl
  have k_tr := Dtr.fn.kp
  have g_wi : mg "is_tree_within" = some (.ref f_wi) := PySem.W.mg_of X G Dwi.ns
  have b_wi := Dwi.fn.binds (ps := ["value", "room"]) fun _ _ _ _ _ _ us hl => match us, hl with | [_, _], _ => rfl
  have k_wi := Dwi.fn.kp
  have g_st : mg "is_statement" = some (.ref f_st) := PySem.W.mg_of X G Dst.ns
  have b_st := Dst.fn.binds (ps := ["value"]) fun _ _ _ _ _ _ us hl => match us, hl with | [_], _ => rfl
  have k_st := Dst.fn.kp
  have g_sh : mg "is_shape" = some (.ref f_sh) := PySem.W.mg_of X G Dsh.ns
  have b_sh := Dsh.fn.binds (ps := ["value"]) fun _ _ _ _ _ _ us hl => match us, hl with | [_], _ => rfl
  have k_sh := Dsh.fn.kp
  have g_cw : mg "count_working" = some (.ref f_cw) := PySem.W.mg_of X G Dcw.ns
  have b_cw := Dcw.fn.binds (ps := ["value", "most", "is_root"]) fun _ _ _ _ _ _ us hl => match us, hl with | [_, _, _], _ => rfl
  have k_cw := Dcw.fn.kp
  have g_ct : mg "count_together" = some (.ref f_ct) := PySem.W.mg_of X G Dct.ns
  have b_ct := Dct.fn.binds (ps := ["shapes", "most"]) fun _ _ _ _ _ _ us hl => match us, hl with | [_, _], _ => rfl
  have k_ct := Dct.fn.kp
  have g_ck : mg "check_shape" = some (.ref f_ck) := PySem.W.mg_of X G Dck.ns
  have b_ck := Dck.fn.binds (ps := ["value"]) fun _ _ _ _ _ _ us hl => match us, hl with | [_], _ => rfl
  have k_ck := Dck.fn.kp
  have g_is : mg "is_store" = some (.ref f_is) := PySem.W.mg_of X G Dis.ns
  have b_is := Dis.fn.binds (ps := ["value"]) fun _ _ _ _ _ _ us hl => match us, hl with | [_], _ => rfl
  have k_is := Dis.fn.kp
  have g_fi : mg "fits" = some (.ref f_fi) := PySem.W.mg_of X G Dfi.ns
  have b_fi := Dfi.fn.binds (ps := ["shape", "tree"]) fun _ _ _ _ _ _ us hl => match us, hl with | [_, _], _ => rfl
  have k_fi := Dfi.fn.kp
  have g_do : mg "does_fit" = some (.ref f_do) := PySem.W.mg_of X G Ddo.ns
  have b_do := Ddo.fn.binds (ps := ["shape", "node"]) fun _ _ _ _ _ _ us hl => match us, hl with | [_, _], _ => rfl
  have k_do := Ddo.fn.kp
  have g_wk : mg "walked_shape" = some (.ref f_wk) := PySem.W.mg_of X G Dwk.ns
  have b_wk := Dwk.fn.binds (ps := ["shape", "path"]) fun _ _ _ _ _ _ us hl => match us, hl with | [_, _], _ => rfl
  have k_wk := Dwk.fn.kp
  have g_pa : mg "paths_of" = some (.ref f_pa) := PySem.W.mg_of X G Dpa.ns
  have b_pa := Dpa.fn.binds (ps := ["shape", "kind"]) fun _ _ _ _ _ _ us hl => match us, hl with | [_, _], _ => rfl
  have k_pa := Dpa.fn.kp
  have g_ho : mg "holes" = some (.ref f_ho) := PySem.W.mg_of X G Dho.ns
  have b_ho := Dho.fn.binds (ps := ["shape"]) fun _ _ _ _ _ _ us hl => match us, hl with | [_], _ => rfl
  have k_ho := Dho.fn.kp
  have g_ld : mg "loads" = some (.ref f_ld) := PySem.W.mg_of X G Dld.ns
  have b_ld := Dld.fn.binds (ps := ["shape"]) fun _ _ _ _ _ _ us hl => match us, hl with | [_], _ => rfl
  have k_ld := Dld.fn.kp
  have g_wr : mg "write_shape" = some (.ref f_wr) := PySem.W.mg_of X G Dwr.ns
  have b_wr := Dwr.fn.binds (ps := ["shape"]) fun _ _ _ _ _ _ us hl => match us, hl with | [_], _ => rfl
  have k_wr := Dwr.fn.kp
  have g_si : mg "signs_of" = some (.ref f_si) := PySem.W.mg_of X G Dsi.ns
  have b_si := Dsi.fn.binds (ps := ["shape"]) fun _ _ _ _ _ _ us hl => match us, hl with | [_], _ => rfl
  have k_si := Dsi.fn.kp
  have g_re : mg "read_shape" = some (.ref f_re) := PySem.W.mg_of X G Dre.ns
  have b_re := Dre.fn.binds (ps := ["text"]) fun _ _ _ _ _ _ us hl => match us, hl with | [_], _ => rfl
  have k_re := Dre.fn.kp
  have g_so : mg "shape_of" = some (.ref f_so) := PySem.W.mg_of X G Dso.ns
  have b_so := Dso.fn.binds (ps := ["signs"]) fun _ _ _ _ _ _ us hl => match us, hl with | [_], _ => rfl
  have k_so := Dso.fn.kp
  have g_pt : mg "read_part" = some (.ref f_pt) := PySem.W.mg_of X G Dpt.ns
  have b_pt := Dpt.fn.binds (ps := ["signs", "at"]) fun _ _ _ _ _ _ us hl => match us, hl with | [_, _], _ => rfl
  have k_pt := Dpt.fn.kp
  have g_ur : mg "_law_urn" = some (.ref f_ur) := PySem.W.mg_of X G Dur.ns
  have b_ur := Dur.fn.binds (ps := ["_law_script", "_law_at"]) fun _ _ _ _ _ _ us hl => match us, hl with | [_, _], _ => rfl
  have k_ur := Dur.fn.kp
  have g_pu : mg "_law_pull" = some (.ref f_pu) := PySem.W.mg_of X G Dpu.ns
  have b_pu := Dpu.fn.binds (ps := ["_law_urn_here", "_law_total"]) fun _ _ _ _ _ _ us hl => match us, hl with | [_, _], _ => rfl
  have k_pu := Dpu.fn.kp
  have g_on : mg "_law_one" = some (.ref f_on) := PySem.W.mg_of X G Don.ns
  have b_on := Don.fn.binds (ps := ["_law_urn_here", "_law_items"]) fun _ _ _ _ _ _ us hl => match us, hl with | [_, _], _ => rfl
  have k_on := Don.fn.kp
  have g_gr : mg "_law_tree" = some (.ref f_gr) := PySem.W.mg_of X G Dgr.ns
  have b_gr := Dgr.fn.binds (ps := ["_law_urn_here", "_law_level", "_law_sets"]) fun _ _ _ _ _ _ us hl => match us, hl with | [_, _, _], _ => rfl
  have k_gr := Dgr.fn.kp
  have g_me : mg "_law_menu" = some (.ref f_me) := PySem.W.mg_of X G Dme.ns
  have b_me := Dme.fn.binds (ps := []) fun _ _ _ _ _ _ us hl => match us, hl with | [], _ => rfl
  have k_me := Dme.fn.kp
  have g_be : mg "_law_below" = some (.ref f_be) := PySem.W.mg_of X G Dbe.ns
  have b_be := Dbe.fn.binds (ps := ["_law_tree_here"]) fun _ _ _ _ _ _ us hl => match us, hl with | [_], _ => rfl
  have k_be := Dbe.fn.kp
  have g_hl : mg "_law_holes" = some (.ref f_hl) := PySem.W.mg_of X G Dhl.ns
  have b_hl := Dhl.fn.binds (ps := ["_law_shape", "_law_tree_here", "_law_text_here"]) fun _ _ _ _ _ _ us hl => match us, hl with | [_, _, _], _ => rfl
  have k_hl := Dhl.fn.kp
  have g_to : mg "_law_told" = some (.ref f_to) := PySem.W.mg_of X G Dto.ns
  have b_to := Dto.fn.binds (ps := ["_law_call"]) fun _ _ _ _ _ _ us hl => match us, hl with | [_], _ => rfl
  have k_to := Dto.fn.kp
  have g_pl : mg "_law_paths" = some (.ref f_pl) := PySem.W.mg_of X G Dpl.ns
  have b_pl := Dpl.fn.binds (ps := ["_law_shape", "_law_word"]) fun _ _ _ _ _ _ us hl => match us, hl with | [_, _], _ => rfl
  have k_pl := Dpl.fn.kp
  have g_tx : mg "_law_text" = some (.ref f_tx) := PySem.W.mg_of X G Dtx.ns
  have b_tx := Dtx.fn.binds (ps := ["_law_shape"]) fun _ _ _ _ _ _ us hl => match us, hl with | [_], _ => rfl
  have k_tx := Dtx.fn.kp
  have g_ri : mg "_law_right" = some (.ref f_ri) := PySem.W.mg_of X G Dri.ns
  have b_ri := Dri.fn.fn.binds (ps := ["_law_urn_here"]) fun _ _ _ _ _ _ us hl => match us, hl with | [_], _ => rfl
  have k_ri := Dri.fn.fn.kp
  have g_la : mg "law" = some (.ref f_la) := PySem.W.mg_of X G Dla.ns
  have b_la := Dla.fn.fn.binds (ps := ["_law_script"]) fun _ _ _ _ _ _ us hl => match us, hl with | [_], _ => rfl
  have k_la := Dla.fn.fn.kp
  have Gnm : FnOk l.prog w K mg base CX0 1 f_nm d_nm ["value"] (spV 40 30 nameB) := ok_name Dnm.fn T1
  have Gig : FnOk l.prog w K mg base CX0 2 f_ig d_ig ["value"] (spV 40 30 integB) := ok_integer Dig.fn T1 Dwh.fn b_wh g_wh
  have Gbt : FnOk l.prog w K mg base CX0 3 f_bt d_bt ["value", "least", "most"] (spBetween 40 30) := ok_between Dbt.fn Gig k_ig b_ig g_ig
  have Gwi : FnOk l.prog w K mg base CX0 8 f_wi d_wi ["value", "room"] (spWithin 40 30 4) := ok_within (by decide) Dwi.fn T1 T2 b_wi g_wi Gnm k_nm b_nm g_nm Gbt k_bt b_bt g_bt Gig k_ig b_ig g_ig 4
  have Gtr : FnOk l.prog w K mg base CX0 9 f_tr d_tr ["value"] (spB 40 30 tree4) := ok_tree Dtr.fn T2 Gwi k_wi b_wi g_wi
  have Gst : FnOk l.prog w K mg base CX0 10 f_st d_st ["value"] (spB 40 30 stateB) := ok_state (by decide) Dst.fn T1 Gnm k_nm b_nm g_nm Gig k_ig b_ig g_ig Gtr k_tr b_tr g_tr
  have Gis : FnOk l.prog w K mg base CX0 11 f_is d_is ["value"] (spB 40 30 stB) := ok_isstore Dis.fn ⟨Gst, k_st, b_st, g_st⟩
  have Gcw : FnOk l.prog w K mg base CX0 10 f_cw d_cw ["value", "most", "is_root"] (spWorking 40 30 4) := ok_working (by decide) Dcw.fn Dct.fn T1 ⟨_, PySem.W.mg_of X G a7⟩ b_cw g_cw Gnm k_nm b_nm g_nm k_ct b_ct g_ct 4 (by decide)
  have Gsh : FnOk l.prog w K mg base CX0 11 f_sh d_sh ["value"] (spB 40 30 shapeB) := ok_shape Dsh.fn ⟨_, PySem.W.mg_of X G a6⟩ Gcw k_cw b_cw g_cw
  have Gck : FnOk l.prog w K mg base (L2.CX l.prog w) 12 f_ck d_ck ["value"] (spCheck 40 30 CA) := ok_check Dck.fn RA ⟨Gsh, k_sh, b_sh, g_sh⟩
  have Gdo : FnOk l.prog w K mg base CX0 10 f_do d_do ["shape", "node"] (spDoes 10) := ok_does Ddo.fn T1 (PySem.W.mg_none_of X G z13) b_do g_do 9
  have Gfi : FnOk l.prog w K mg base (L2.CX l.prog w) 13 f_fi d_fi ["shape", "tree"] (spFits 40 30 9 CA CT) := ok_fits Dfi.fn RT ⟨Gck, k_ck, b_ck, g_ck⟩ (Dn.up ⟨Gtr, k_tr, b_tr, g_tr⟩ (by decide)) (Dn.up ⟨Gis, k_is, b_is, g_is⟩ (by decide)) (Dn.up ⟨Gdo, k_do, b_do, g_do⟩ (by decide))
  have Gwk : FnOk l.prog w K mg base CX0 10 f_wk d_wk ["shape", "path"] (spWalked 10) := ok_walked Dwk.fn (PySem.W.mg_none_of X G z14) b_wk g_wk 9
  have Gpa : FnOk l.prog w K mg base CX0 11 f_pa d_pa ["shape", "kind"] (spPaths 10) := ok_paths Dpa.fn (PySem.W.mg_none_of X G z4) ⟨Gwk, k_wk, b_wk, g_wk⟩
  have Gho : FnOk l.prog w K mg base (L2.CX l.prog w) 13 f_ho d_ho ["shape"] (spHoles 40 30 10 CA "hole") := ok_holes Dho.fn ⟨Gck, k_ck, b_ck, g_ck⟩ (Dn.up ⟨Gpa, k_pa, b_pa, g_pa⟩ (by decide))
  have Gld : FnOk l.prog w K mg base (L2.CX l.prog w) 13 f_ld d_ld ["shape"] (spHoles 40 30 10 CA "load") := ok_loads Dld.fn ⟨Gck, k_ck, b_ck, g_ck⟩ (Dn.up ⟨Gpa, k_pa, b_pa, g_pa⟩ (by decide))
  have Gsi : FnOk l.prog w K mg base CX0 25 f_si d_si ["shape"] (spSigns 25) := ok_signs Dsi.fn b_si g_si 24
  have Gwr : FnOk l.prog w K mg base (L2.CX l.prog w) 26 f_wr d_wr ["shape"] (spWrite 40 30 25 CA) := ok_write Dwr.fn (Dn.up ⟨Gck, k_ck, b_ck, g_ck⟩ (by decide)) ⟨Gsi, k_si, b_si, g_si⟩
  have Gpt : FnOk l.prog w K mg base CX0 23 f_pt d_pt ["signs", "at"] (spPart 22) := ok_part Dpt.fn T1 b_pt g_pt ⟨Gnm, k_nm, b_nm, g_nm⟩ 21
  have Gso : FnOk l.prog w K mg base CX0 24 f_so d_so ["signs"] spShapeOf := ok_shapeof Dso.fn T1 ⟨_, PySem.W.mg_of X G a8⟩ ⟨Gpt, k_pt, b_pt, g_pt⟩ (Dn.up ⟨Gsh, k_sh, b_sh, g_sh⟩ (by decide))
  have Gre : FnOk l.prog w K mg base (L2.CX l.prog w) 25 f_re d_re ["text"] (spRead 40 30 CP) := ok_read Dre.fn T1 RP ⟨Gso, k_so, b_so, g_so⟩
  have Gur : FnOk l.prog w K mg base CX0 1 f_ur d_ur ["_law_script", "_law_at"] (spUrn K) := ok_urn Dur.fn TBl
  have Gpu : FnOk l.prog w K mg base CX0 1 f_pu d_pu ["_law_urn_here", "_law_total"] spPull := ok_pull Dpu.fn TBl
  have Gon : FnOk l.prog w K mg base CX0 2 f_on d_on ["_law_urn_here", "_law_items"] spOne := ok_one Don.fn TBl ⟨Gpu, k_pu, b_pu, g_pu⟩
  have Ggr : FnOk l.prog w K mg base CX0 6 f_gr d_gr ["_law_urn_here", "_law_level", "_law_sets"] (spGrow 4) := ok_grow Dgr.fn b_gr g_gr ⟨Gpu, k_pu, b_pu, g_pu⟩ ⟨Gon, k_on, b_on, g_on⟩ 3
  have Gme : FnOk l.prog w K mg base CX0 1 f_me d_me [] spMenu := ok_menu Dme.fn
  have Gbe : FnOk l.prog w K mg base CX0 1 f_be d_be ["_law_tree_here"] spBelow := ok_below Dbe.fn (PySem.W.mg_none_of X G z5)
  have Ghl : FnOk l.prog w K mg base CX0 11 f_hl d_hl ["_law_shape", "_law_tree_here", "_law_text_here"] (spHolesL 10) := ok_holesL Dhl.fn T1 (PySem.W.mg_none_of X G z14) b_hl g_hl ⟨Gbe, k_be, b_be, g_be⟩ 9
  have Gpl : FnOk l.prog w K mg base CX0 10 f_pl d_pl ["_law_shape", "_law_word"] (spPathsL 10) := ok_pathsL Dpl.fn T1 (PySem.W.mg_none_of X G z14) b_pl g_pl 9
  have Gtx : FnOk l.prog w K mg base CX0 10 f_tx d_tx ["_law_shape"] (spTextL 10) := ok_textL Dtx.fn b_tx g_tx 9
  have Gri : FnG l.prog w K mg base 43 f_ri d_ri ["_law_urn_here"] (spRight [(P1, lamR), (P2, lamL)]) := ok_right Dri.fn TB1 (by simp) u1 T1 (PySem.W.mg_none_of X G z12) RP RT RA E3 (Dn.up ⟨Gme, k_me, b_me, g_me⟩ (by decide)) (Dn.up ⟨Gon, k_on, b_on, g_on⟩ (by decide)) (Dn.up ⟨Gpu, k_pu, b_pu, g_pu⟩ (by decide)) (Dn.up ⟨Ggr, k_gr, b_gr, g_gr⟩ (by decide)) (Dn.up ⟨Gfi, k_fi, b_fi, g_fi⟩ (by decide)) (Dn.up ⟨Ghl, k_hl, b_hl, g_hl⟩ (by decide)) (Dn.up ⟨Gho, k_ho, b_ho, g_ho⟩ (by decide)) (Dn.up ⟨Gld, k_ld, b_ld, g_ld⟩ (by decide)) (Dn.up ⟨Gpl, k_pl, b_pl, g_pl⟩ (by decide)) (Dn.up ⟨Gwr, k_wr, b_wr, g_wr⟩ (by decide)) (Dn.up ⟨Gtx, k_tx, b_tx, g_tx⟩ (by decide)) (Dn.up ⟨Gre, k_re, b_re, g_re⟩ (by decide)) Dto.fn g_to b_to
  exact ok_law Dla.fn TB2 (by simp) u2 TBl (PySem.W.mg_none_of X G z12) RP RT RA E3 (Dn.up ⟨Gur, k_ur, b_ur, g_ur⟩ (by decide)) (Dn.up ⟨Gon, k_on, b_on, g_on⟩ (by decide)) Gri k_ri b_ri g_ri (Dn.up ⟨Gfi, k_fi, b_fi, g_fi⟩ (by decide)) (Dn.up ⟨Gho, k_ho, b_ho, g_ho⟩ (by decide)) (Dn.up ⟨Gwr, k_wr, b_wr, g_wr⟩ (by decide)) (Dn.up ⟨Gre, k_re, b_re, g_re⟩ (by decide)) Dto.fn g_to b_to
end K19
open PySem PySem.W PyProof.Rows
set_option maxRecDepth 100000 in
set_option maxHeartbeats 0 in
theorem PySem.Challenge.cw_loopfoundry_k19_what_shapes_fit_and_thei_holds : PySem.Challenge.rw_loopfoundry_k19_what_shapes_fit_and_thei.Holds := by
  w_on; o_law; k_head; (case hw => w_witness2)
  k_fill
  refine K19.E.walkT (l := PySem.Challenge.rw_loopfoundry_k19_what_shapes_fit_and_thei) (n := 63) (k := 44) (x := "_law_script") rfl (by decide) rfl ⟨rfl, by decide, by decide⟩ (fun w h Y => PySem.W.km_in_of Y) ?F
  case F =>
    intro w mg mb mean fa h TT Y KX G hmg
    refine' K19.all_mk KX G hmg (K19.consts ?q0 ?q1 ?q2 ?q3 ?q4 ?q5 ?q6 ?q7 ?q8) ?nT ?nA ?nP ⟨?xT, ?kT, ?bT, ?tT, ?hT⟩ ⟨?xA, ?kA, ?bA, ?tA, ?hA⟩ (K19.mkP ?el ?et ?es ?en ?ei ?ef ?ega ?egg ?esb ?ehd ?ekp ?ety ?elf ?ecc) ?s1 ?s2 ?s3 ?s4 ?s5 ?s6 ⟨PySem.W.codeHd_of_K KX ?ch1, PySem.W.km_tabs_of Y _ (List.mem_cons_self ..)⟩ ⟨PySem.W.codeHd_of_K KX ?ch2, PySem.W.km_tabs_of Y _ (List.mem_cons_of_mem _ (List.mem_cons_self ..))⟩ ?n1 ?n2 ?ne (K19.atTop ?anm ?lnm ?cnm ?knm) (K19.atTop ?awh ?lwh ?cwh ?kwh) (K19.atTop ?aig ?lig ?cig ?kig) (K19.atTop ?abt ?lbt ?cbt ?kbt) (K19.atTop ?atr ?ltr ?ctr ?ktr) (K19.atTop ?awi ?lwi ?cwi ?kwi) (K19.atTop ?ast ?lst ?cst ?kst) (K19.atTop ?ash ?lsh ?csh ?ksh) (K19.atTop ?acw ?lcw ?ccw ?kcw) (K19.atTop ?act ?lct ?cct ?kct) (K19.atTop ?ack ?lck ?cck ?kck) (K19.atTop ?ais ?lis ?cis ?kis) (K19.atTop ?afi ?lfi ?cfi ?kfi) (K19.atTop ?ado ?ldo ?cdo ?kdo) (K19.atTop ?awk ?lwk ?cwk ?kwk) (K19.atTop ?apa ?lpa ?cpa ?kpa) (K19.atTop ?aho ?lho ?cho ?kho) (K19.atTop ?ald ?lld ?cld ?kld) (K19.atTop ?awr ?lwr ?cwr ?kwr) (K19.atTop ?asi ?lsi ?csi ?ksi) (K19.atTop ?are ?lre ?cre ?kre) (K19.atTop ?aso ?lso ?cso ?kso) (K19.atTop ?apt ?lpt ?cpt ?kpt) (K19.atTop ?aur ?lur ?cur ?kur) (K19.atTop ?apu ?lpu ?cpu ?kpu) (K19.atTop ?aon ?lon ?con ?kon) (K19.atTop ?agr ?lgr ?cgr ?kgr) (K19.atTop ?ame ?lme ?cme ?kme) (K19.atTop ?abe ?lbe ?cbe ?kbe) (K19.atTop ?ahl ?lhl ?chl ?khl) (K19.atTop ?ato ?lto ?cto ?kto) (K19.atTop ?apl ?lpl ?cpl ?kpl) (K19.atTop ?atx ?ltx ?ctx ?ktx) (K19.atTopC ?ari ?lri ?cri ?kri) (K19.atTopC ?ala ?lla ?cla ?kla) ?z0 ?z1 ?z2 ?z3 ?z4 ?z5 ?z6 ?z7 ?z8 ?z9 ?z10 ?z11 ?z12 ?z13 ?z14 ?hb
    (case q0 => k_is); (case q1 => k_is); (case q2 => k_is); (case q3 => k_is); (case q4 => k_is); (case q5 => k_is); (case q6 => k_is); (case q7 => k_is); (case q8 => k_is)
    (case nT => k_is); (case nA => k_is); (case nP => k_is)
    (case xT => k_exc); (case kT => k_is); (case bT => k_is); (case tT => k_is); (case hT => k_is)
    (case xA => k_exc); (case kA => k_is); (case bA => k_is); (case tA => k_is); (case hA => k_is)
    (case el => k_is); (case et => first | rfl | decide | k_is); (case es => k_is); (case en => k_is); (case ei => k_is); (case ef => k_is); (case ega => k_is); (case egg => k_is); (case esb => k_is); (case ehd => k_is); (case ekp => k_is); (case ety => k_is); (case elf => k_is); (case ecc => k_is)
    (case s1 => first | rfl | kernel_rfl | k_is)
    (case s2 => first | rfl | kernel_rfl | k_is)
    (case s3 => first | rfl | kernel_rfl | k_is)
    (case s4 => first | rfl | kernel_rfl | k_is)
    (case s5 => first | rfl | kernel_rfl | k_is)
    (case s6 => first | rfl | kernel_rfl | k_is)
    (case anm => k_is); (case lnm => k_is); (case cnm => k_is); (case knm => k_is)
    (case awh => k_is); (case lwh => k_is); (case cwh => k_is); (case kwh => k_is)
    (case aig => k_is); (case lig => k_is); (case cig => k_is); (case kig => k_is)
    (case abt => k_is); (case lbt => k_is); (case cbt => k_is); (case kbt => k_is)
    (case atr => k_is); (case ltr => k_is); (case ctr => k_is); (case ktr => k_is)
    (case awi => k_is); (case lwi => k_is); (case cwi => k_is); (case kwi => k_is)
    (case ast => k_is); (case lst => k_is); (case cst => k_is); (case kst => k_is)
    (case ash => k_is); (case lsh => k_is); (case csh => k_is); (case ksh => k_is)
    (case acw => k_is); (case lcw => k_is); (case ccw => k_is); (case kcw => k_is)
    (case act => k_is); (case lct => k_is); (case cct => k_is); (case kct => k_is)
    (case ack => k_is); (case lck => k_is); (case cck => k_is); (case kck => k_is)
    (case ais => k_is); (case lis => k_is); (case cis => k_is); (case kis => k_is)
    (case afi => k_is); (case lfi => k_is); (case cfi => k_is); (case kfi => k_is)
    (case ado => k_is); (case ldo => k_is); (case cdo => k_is); (case kdo => k_is)
    (case awk => k_is); (case lwk => k_is); (case cwk => k_is); (case kwk => k_is)
    (case apa => k_is); (case lpa => k_is); (case cpa => k_is); (case kpa => k_is)
    (case aho => k_is); (case lho => k_is); (case cho => k_is); (case kho => k_is)
    (case ald => k_is); (case lld => k_is); (case cld => k_is); (case kld => k_is)
    (case awr => k_is); (case lwr => k_is); (case cwr => k_is); (case kwr => k_is)
    (case asi => k_is); (case lsi => k_is); (case csi => k_is); (case ksi => k_is)
    (case are => k_is); (case lre => k_is); (case cre => k_is); (case kre => k_is)
    (case aso => k_is); (case lso => k_is); (case cso => k_is); (case kso => k_is)
    (case apt => k_is); (case lpt => k_is); (case cpt => k_is); (case kpt => k_is)
    (case aur => k_is); (case lur => k_is); (case cur => k_is); (case kur => k_is)
    (case apu => k_is); (case lpu => k_is); (case cpu => k_is); (case kpu => k_is)
    (case aon => k_is); (case lon => k_is); (case con => k_is); (case kon => k_is)
    (case agr => k_is); (case lgr => k_is); (case cgr => k_is); (case kgr => k_is)
    (case ame => k_is); (case lme => k_is); (case cme => k_is); (case kme => k_is)
    (case abe => k_is); (case lbe => k_is); (case cbe => k_is); (case kbe => k_is)
    (case ahl => k_is); (case lhl => k_is); (case chl => k_is); (case khl => k_is)
    (case ato => k_is); (case lto => k_is); (case cto => k_is); (case kto => k_is)
    (case apl => k_is); (case lpl => k_is); (case cpl => k_is); (case kpl => k_is)
    (case atx => k_is); (case ltx => k_is); (case ctx => k_is); (case ktx => k_is)
    (case ari => k_is); (case lri => k_is); (case cri => k_is); (case kri => k_is)
    (case ala => k_is); (case lla => k_is); (case cla => k_is); (case kla => k_is)
    (case z0 => k_is); (case z1 => k_is); (case z2 => k_is); (case z3 => k_is); (case z4 => k_is); (case z5 => k_is); (case z6 => k_is); (case z7 => k_is); (case z8 => k_is); (case z9 => k_is); (case z10 => k_is); (case z11 => k_is); (case z12 => k_is); (case z13 => k_is); (case z14 => k_is)
    (case ch1 => first | k_is | kernel_rfl)
    (case ch2 => first | k_is | kernel_rfl)
    (case n1 => first | k_is | kernel_rfl)
    (case n2 => first | k_is | kernel_rfl)
    (case ne => decide)
    (case hb => exact fun s v => .of_eq rfl)
